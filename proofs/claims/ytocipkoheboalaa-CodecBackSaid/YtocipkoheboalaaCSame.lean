/- A contract of the reference's Same, for rows that are the same. -/
import Derived.Test.YtocipkoheboalaaCRSplit
namespace Go.Proofs.Ytocipkoheboalaa
open Go.RowKit

/-- The same, as far as the kind tells. -/
def SameF (x y : Fld) : Prop := x.1 = y.1 ∧ (x.1 = true → x.2.2 = y.2.2) ∧ (x.1 = false → x.2.1 = y.2.1)
theorem SameF.refl (x : Fld) : SameF x x := ⟨rfl, fun _ => rfl, fun _ => rfl⟩

set_option maxRecDepth 100000 in
set_option maxHeartbeats 4000000 in
theorem same_any (A B : Option Addr) (c d : Nat) (L M : List Fld) (w : World) (hA : FR w A L) (hB : FR w B M) (hl : M.length = L.length) (hs : ∀ j (h : j < L.length), SameF L[j] (M[j]'(by omega))) (h64 : L.length ≤ 64) :
    Calls Try.prog 17 #[.slice A L.length c, .slice B L.length d] w fun e w' => e = .returned (.bool true) ∧ Below w.heap.size w w' := by
  have HA := Lib.hid hA
  have HB := Lib.hid hB
  have HS : Hid (∀ j (h : j < L.length) (h' : j < M.length), SameF L[j] M[j]) := fun j h _ => hs j h
  have HL := Lib.hid hl
  clear hA hB hs
  clear hl
  go_enter Try.func17, Try.ntmps17
  go_wp2_with fail
  go_loopw [13] (fun iv wr => ∃ k : Nat, k ≤ L.length ∧ iv = .int .i64 k ∧ Below w.heap.size w wr) (fun i _ => L.length - (intOf i).toNat)
  case atStart => exact ⟨0, Nat.zero_le _, rfl, Below.refl _ _⟩
  case round =>
    obtain ⟨k, hk, rfl, hb⟩ := hrel
    by_cases hlt : k < L.length
    · obtain ⟨g, off, rfl, c0, c1, c2⟩ := (HA.out.later hb) k hlt
      obtain ⟨g', off', rfl, d0, d1, d2⟩ := (HB.out.later hb) k (by rw [HL.out]; exact hlt)
      have hsf := HS.out k hlt (by rw [HL.out]; exact hlt)
      have i0 : (0 : Int) ≤ (k : Int) := by omega
      have i1 : (k : Int) < (L.length : Int) := by omega
      obtain ⟨⟨t, n, s⟩, hx⟩ : ∃ x, L[k] = x := ⟨_, rfl⟩
      obtain ⟨⟨t', n', s'⟩, hy⟩ : ∃ y, M[k]'(by rw [HL.out]; exact hlt) = y := ⟨_, rfl⟩
      rw [hx] at c0 c1 c2 hsf
      rw [hy] at d0 d1 d2 hsf
      clear hx hy
      obtain ⟨e1, e2, e3⟩ := hsf
      simp only at e1 e2 e3 c0 c1 c2 d0 d1 d2
      subst e1
      cases t
      · have e4 := e3 rfl
        subst e4
        clear e2 e3
        go_wp2_with fail
        go_quiet (fail)
        go_wp2
        exact ⟨⟨k + 1, by omega, by go_num, bdn hb _⟩, by simp [intOf]; omega⟩
      · have e4 := e2 rfl
        subst e4
        clear e2 e3
        go_wp2_with fail
        go_quiet (fail)
        go_wp2
        exact ⟨⟨k + 1, by omega, by go_num, bdn hb _⟩, by simp [intOf]; omega⟩
    · obtain rfl : k = L.length := by omega
      go_wp2
      go_ret
      exact ⟨rfl, hb⟩
end Go.Proofs.Ytocipkoheboalaa
