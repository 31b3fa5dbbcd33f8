/- Texts of this seat, one behind the other: JSame. -/
import Derived.BigQuiet
import Derived.Test.YtjonhenllhnibaaGreatDoorQ01
import Derived.Test.YtjonhenllhnibaaGreatDoorQ03
/- The contract of stage 4's reference Same, at any two rows. -/
namespace Go.Proofs.YtjonhenllhnibaaGreatDoor
open Go.RowKit

theorem jgetD_ext {L M : List (List UInt8)} {n : Nat} (hl : L.length = n) (hm : M.length = n) (h : ∀ j, j < n → L.getD j [] = M.getD j []) : L = M := by
  apply List.ext_getElem
  · rw [hl, hm]
  · intro i h1 h2
    have := h i (by omega)
    simpa [List.getD, h1, h2] using this
set_option maxRecDepth 100000 in
set_option maxHeartbeats 4000000 in
theorem jsame_any (A B : Option Addr) (c d n m : Nat) (L M : List (List UInt8)) (w : World) (hA : SR w A L) (hB : SR w B M) (hl : L.length = n) (hm : M.length = m) (hn : n ≤ 65536) (hn2 : m ≤ 65536) :
    Calls Tryz.prog 20 #[.slice A n c, .slice B m d] w fun e w' => e = .returned (.bool (decide (L = M))) ∧ Below w.heap.size w w' := by
  have HA := Lib.hid hA
  have HB := Lib.hid hB
  have HL := Lib.hid hl
  have HM := Lib.hid hm
  clear hA hB hl hm
  by_cases hnm : n = m
  · subst hnm
    clear hn2
    go_enter Tryz.func20, Tryz.ntmps20
    go_wp2_with fail
    go_loopw [13] (fun iv wr => ∃ k : Nat, k ≤ n ∧ iv = .int .i64 k ∧ Hid (∀ j, j < k → L.getD j [] = M.getD j []) ∧ Below w.heap.size w wr) (fun i _ => n - (intOf i).toNat)
    case atStart => exact ⟨0, Nat.zero_le _, rfl, Lib.hid (fun j hj => absurd hj (Nat.not_lt_zero j)), Below.refl _ _⟩
    case round =>
      obtain ⟨k, hk, rfl, HE, hb⟩ := hrel
      by_cases hlt : k < n
      · obtain ⟨g, off, rfl, c0⟩ := (HA.out.later hb) k (by rw [HL.out]; exact hlt)
        obtain ⟨g', off', rfl, d0⟩ := (HB.out.later hb) k (by rw [HM.out]; exact hlt)
        have i0 : (0 : Int) ≤ (k : Int) := by omega
        have i1 : (k : Int) < (n : Int) := by omega
        by_cases hxy : L.getD k [] = M.getD k []
        · have HE2 : Hid (∀ j, j < k + 1 → L.getD j [] = M.getD j []) := Lib.hid (fun j hj => by
            by_cases e : j = k
            · rw [e]; exact hxy
            · exact HE.out j (by omega))
          rw [← hxy] at d0
          clear hxy
          generalize L.getD k [] = x at c0 d0
          go_wp2_with fail
          go_quiet (fail)
          go_wp2
          exact ⟨⟨k + 1, by omega, by go_num, HE2, bdn' hb _⟩, by simp [intOf]; omega⟩
        · have HN : Hid (decide (L = M) = false) := Lib.hid (by simp; intro e; exact hxy (by rw [e]))
          have hx : (L.getD k [] == M.getD k []) = false := by simp only [beq_eq_false_iff_ne]; exact hxy
          clear hxy
          generalize L.getD k [] = x at c0 hx
          generalize M.getD k [] = y at d0 hx
          have hx2 : (x != y) = true := by simp [bne, hx]
          go_wp2_with fail
          go_quiet (fail)
          go_wp2
          go_ret
          rw [HN.out]
          exact ⟨rfl, bdn' hb _⟩
      · obtain rfl : k = n := by omega
        have HY : Hid (decide (L = M) = true) := Lib.hid (by simp; exact jgetD_ext HL.out HM.out HE.out)
        go_wp2
        go_ret
        rw [HY.out]
        exact ⟨rfl, hb⟩
  · have HN : Hid (decide (L = M) = false) := Lib.hid (by simp; intro e; exact hnm (by rw [← HL.out, ← HM.out, e]))
    have h1 : (n == m) = false := by simp; exact hnm
    have h2 : ((n : Int) == (m : Int)) = false := by simp; omega
    have h3 : ((n : Int) != (m : Int)) = true := by simp; omega
    clear hnm
    go_enter Tryz.func20, Tryz.ntmps20
    go_wp2_with fail
    go_ret
    rw [HN.out]
    exact ⟨rfl, Below.refl _ _⟩
end Go.Proofs.YtjonhenllhnibaaGreatDoor
