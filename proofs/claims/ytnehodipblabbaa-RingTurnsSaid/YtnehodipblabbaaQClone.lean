/- The contract of slices.Clone of a row of texts. -/
import Derived.Test.YtnehodipblabbaaQRow
namespace Go.Proofs.Ytnehodipblabbaa
open Go.RowKit

theorem qown_nil {W : World} {t : TypeId} {g base size : Nat} (h : Blk W g t #[]) (hb : base ≤ g) : W.ownsRow base t size (.slice (some ⟨g, 0, none⟩) 0 0) 0 [] :=
  ⟨by simp, .inr ⟨g, 0, #[], rfl, hb, h, Nat.le_refl _, Nat.zero_le _, by simp, by simp⟩⟩

set_option maxRecDepth 100000 in
set_option maxHeartbeats 1000000 in
theorem qclone_any (A : Option Addr) (c n : Nat) (L : List (List UInt8)) (w : World) (hA : SR w A L) (hl : L.length = n) (h0 : A = none → c = 0) (hn : n ≤ 65536) :
    Calls Try.prog 24 #[.slice A n c] w fun e w' => ∃ A' c', e = .returned (.slice A' n c') ∧ w'.ownsRow w.heap.size 9 1 (.slice A' n c') n (L.map sv) ∧ Below w.heap.size w w' := by
  cases A with
  | none =>
    have hL : L = [] := by
      cases L with
      | nil => rfl
      | cons x r => obtain ⟨g, off, e, _⟩ := hA 0 (by simp); cases e
    subst hL
    subst hl
    rw [h0 rfl]
    clear h0 hA
    go_enter Try.func24, Try.ntmps24
    have hq := fun (w : World) => Lib.run_eql_slice_nil (P := Try.prog) w 22 9 none 0 0 0 0 Try.underlying22
    go_wp2
    go_ret
    exact ⟨none, 0, rfl, World.ownsRow_nil _ _ _ _, Below.refl _ _⟩
  | some a =>
    clear h0
    obtain ⟨ti, hi, hz0, hz1, hz2⟩ := info_parts infoS
    have HC := Lib.hid ((hA.later (ba (Below.refl w.heap.size w) (.cells #[] 9))).cells')
    have HO : Hid ((w.alloc (.cells #[] 9)).ownsRow w.heap.size 9 1 (.slice (some ⟨w.heap.size, 0, none⟩) 0 0) 0 []) := Lib.hid (qown_nil (Blk.new w _ _) (Nat.le_refl _))
    have HL : Hid ((L.map sv).length = n * 1) := Lib.hid (by simp [hl])
    have H1 := Lib.hid (svs_one' L)
    clear hA hl
    go_enter Try.func24, Try.ntmps24
    have hq := fun (w : World) => Lib.run_eql_slice_nil (P := Try.prog) w 22 9 (some a) n c 0 0 Try.underlying22
    go_wp2_with (at_builtin; refine wpList_append_own _ rfl _ _ 22 rfl w.heap.size 9 ti _ 1 16 Try.underlying22 hi hz0 hz1 hz2 rfl (by decide) _ _ _ rfl HO.out a n c (L.map sv) rfl HL.out HC.out H1.out (by unfold maxLen; omega) (by omega) (by simp) ?_; intro v3 w3 hown3 hgrow3 _)
    rw [Nat.zero_add] at hown3
    obtain ⟨va, vc, rfl, _⟩ := own_form hown3
    go_ret
    refine ⟨va, vc, rfl, ?_, (ba (Below.refl _ _) _).grown hgrow3 (by simp) (fun k e => (HO.out.lt k e).1)⟩
    simpa using hown3
end Go.Proofs.Ytnehodipblabbaa
