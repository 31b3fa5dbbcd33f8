/- The contract of the reference's Same of two devices. -/
import Derived.Test.YtiibgbdhbamajaaDRow
import Derived.BigQuiet
namespace Go.Proofs.Ytiibgbdhbamajaa
open Go.RowKit

theorem getD_same {α : Type} (d : α) {L M : List α} {n : Nat} (hl : L.length = n) (hm : M.length = n) (h : ∀ j, j < n → L.getD j d = M.getD j d) : L = M := by
  apply List.ext_getElem
  · rw [hl, hm]
  · intro i h1 h2
    have := h i (by omega)
    simpa [List.getD, h1, h2] using this
theorem bd_q {w w1 : World} (h : Below w.heap.size w w1) (n : Nat) : Below w.heap.size w (w1.drewN n) := below_drewN h n
theorem not_both {S T : List (List UInt8)} {C D : List PutL} (h : S ≠ T ∨ C ≠ D) : decide (S = T ∧ C = D) = false := by
  simp only [decide_eq_false_iff_not]
  rintro ⟨h1, h2⟩
  rcases h with h | h
  · exact h h1
  · exact h h2

set_option maxRecDepth 100000 in
set_option maxHeartbeats 4000000 in
theorem dsame_sizes (A1 A2 B1 B2 : Option Addr) (c1 c2 d1 d2 n1 n2 m1 m2 : Nat) (w : World) (h : ¬ (n1 = n2 ∧ m1 = m2)) :
    Calls Try.prog 12 #[dv A1 n1 c1 B1 m1 d1, dv A2 n2 c2 B2 m2 d2] w fun e w' => e = .returned (.bool false) ∧ Below w.heap.size w w' := by
  by_cases hn : n1 = n2
  · subst hn
    have hm : ¬ m1 = m2 := fun e => h ⟨rfl, e⟩
    have h1 : (m1 == m2) = false := by simp; exact hm
    have h2 : ((m1 : Int) == (m2 : Int)) = false := by simp; omega
    have h3 : ((m1 : Int) != (m2 : Int)) = true := by simp; omega
    clear h hm
    go_enter Try.func12, Try.ntmps12
    go_wp2
    go_ret
    exact ⟨rfl, ba (ba (Below.refl _ _) _) _⟩
  · have h1 : (n1 == n2) = false := by simp; exact hn
    have h2 : ((n1 : Int) == (n2 : Int)) = false := by simp; omega
    have h3 : ((n1 : Int) != (n2 : Int)) = true := by simp; omega
    clear h hn
    go_enter Try.func12, Try.ntmps12
    go_wp2
    go_ret
    exact ⟨rfl, ba (ba (Below.refl _ _) _) _⟩

set_option maxRecDepth 100000 in
set_option maxHeartbeats 8000000 in
theorem dsame_loops (A1 A2 B1 B2 : Option Addr) (c1 c2 d1 d2 n m : Nat) (S T : List (List UInt8)) (C D : List PutL) (w : World) (hA1 : SR w A1 S) (hA2 : SR w A2 T) (hB1 : PR w B1 C) (hB2 : PR w B2 D) (hS : S.length = n) (hT : T.length = n) (hC : C.length = m) (hD : D.length = m) (hn : n ≤ 65536) (hm : m ≤ 65536) :
    Calls Try.prog 12 #[dv A1 n c1 B1 m d1, dv A2 n c2 B2 m d2] w fun e w' => e = .returned (.bool (decide (S = T ∧ C = D))) ∧ Below w.heap.size w w' := by
  have HA1 := Lib.hid hA1
  have HA2 := Lib.hid hA2
  have HB1 := Lib.hid hB1
  have HB2 := Lib.hid hB2
  have HT : Hid (∀ j, S.getD j [] ≠ T.getD j [] → decide (S = T ∧ C = D) = false) := Lib.hid fun j h => not_both (.inl (fun e => h (by rw [e])))
  have HP : Hid (∀ j, C.getD j (0, []) ≠ D.getD j (0, []) → decide (S = T ∧ C = D) = false) := Lib.hid fun j h => not_both (.inr (fun e => h (by rw [e])))
  have HY : Hid ((∀ j, j < n → S.getD j [] = T.getD j []) → (∀ j, j < m → C.getD j (0, []) = D.getD j (0, [])) → decide (S = T ∧ C = D) = true) := Lib.hid fun a b => decide_eq_true ⟨getD_same [] hS hT a, getD_same (0, []) hC hD b⟩
  generalize decide (S = T ∧ C = D) = R at HT HP HY ⊢
  have HS := Lib.hid hS
  have HTn := Lib.hid hT
  have HC := Lib.hid hC
  have HD := Lib.hid hD
  clear hA1 hA2 hB1 hB2 hS hT hC hD
  go_enter Try.func12, Try.ntmps12
  go_wp2_with fail
  go_loopw [26] (fun iv wr => ∃ k : Nat, k ≤ n ∧ iv = .int .i64 k ∧ Hid (∀ j, j < k → S.getD j [] = T.getD j []) ∧ Hid (Blk wr w.heap.size 25 #[.slice A1 n c1, .slice B1 m d1] ∧ Blk wr (w.heap.size + 1) 25 #[.slice A2 n c2, .slice B2 m d2]) ∧ Below w.heap.size w wr) (fun i _ => n - (intOf i).toNat)
  case atStart =>
    refine ⟨0, Nat.zero_le _, rfl, Lib.hid (fun j hj => absurd hj (Nat.not_lt_zero j)), Lib.hid ⟨(Blk.new w _ _).alloc _, ?_⟩, ba (ba (Below.refl _ _) _) _⟩
    exact Blk.newAt (by simp) _ _
  case round =>
    obtain ⟨k, hk, rfl, HJ, HK, hb⟩ := hrel
    have a0 := HK.out.1.cell 0
    have a1 := HK.out.1.cell 1
    have b0 := HK.out.2.cell 0
    have b1 := HK.out.2.cell 1
    simp only [List.getElem?_toArray, List.getElem?_cons_zero, List.getElem?_cons_succ] at a0 a1 b0 b1
    by_cases hlt : k < n
    · obtain ⟨g, off, rfl, c0⟩ := (HA1.out.later hb) k (by rw [HS.out]; exact hlt)
      obtain ⟨g', off', rfl, e0⟩ := (HA2.out.later hb) k (by rw [HTn.out]; exact hlt)
      have i0 : (0 : Int) ≤ (k : Int) := by omega
      have i1 : (k : Int) < (n : Int) := by omega
      by_cases hxy : S.getD k [] = T.getD k []
      · have HJ2 : Hid (∀ j, j < k + 1 → S.getD j [] = T.getD j []) := Lib.hid (fun j hj => by
          by_cases e : j = k
          · rw [e]; exact hxy
          · exact HJ.out j (by omega))
        rw [← hxy] at e0
        clear hxy
        generalize S.getD k [] = x at c0 e0
        go_wp2_with fail
        go_quiet (fail)
        go_wp2
        exact ⟨⟨k + 1, by omega, by go_num, HJ2, Lib.hid ⟨HK.out.1.drewN _, HK.out.2.drewN _⟩, bd_q hb _⟩, by simp [intOf]; omega⟩
      · have HN := Lib.hid (HT.out k hxy)
        have hx : (S.getD k [] == T.getD k []) = false := by simp only [beq_eq_false_iff_ne]; exact hxy
        clear hxy
        generalize S.getD k [] = x at c0 hx
        generalize T.getD k [] = y at e0 hx
        have hx2 : (x != y) = true := by simp [bne, hx]
        go_wp2_with fail
        go_quiet (fail)
        go_wp2
        go_ret
        rw [HN.out]
        exact ⟨rfl, bd_q hb _⟩
    · obtain rfl : k = n := by omega
      clear HT hlt HA1 HA2
      go_wp2_with fail
      go_loopw [44] (fun iv wi => ∃ j : Nat, j ≤ m ∧ iv = .int .i64 j ∧ Hid (∀ i, i < j → C.getD i (0, []) = D.getD i (0, [])) ∧ Hid (Blk wi w.heap.size 25 #[.slice A1 k c1, .slice B1 m d1] ∧ Blk wi (w.heap.size + 1) 25 #[.slice A2 k c2, .slice B2 m d2]) ∧ Below w.heap.size w wi) (fun i _ => m - (intOf i).toNat)
      case atStart => exact ⟨0, Nat.zero_le _, rfl, Lib.hid (fun j hj => absurd hj (Nat.not_lt_zero j)), HK, hb⟩
      case round =>
        clear a0 a1 b0 b1 HK hb
        obtain ⟨j, hj, rfl, HQ, HK, hb⟩ := hrel
        have a0 := HK.out.1.cell 0
        have a1 := HK.out.1.cell 1
        have b0 := HK.out.2.cell 0
        have b1 := HK.out.2.cell 1
        simp only [List.getElem?_toArray, List.getElem?_cons_zero, List.getElem?_cons_succ] at a0 a1 b0 b1
        by_cases hlt : j < m
        · obtain ⟨g, off, rfl, p0, p1⟩ := (HB1.out.later hb) j (by rw [HC.out]; exact hlt)
          obtain ⟨g', off', rfl, q0, q1⟩ := (HB2.out.later hb) j (by rw [HD.out]; exact hlt)
          have i0 : (0 : Int) ≤ (j : Int) := by omega
          have i1 : (j : Int) < (m : Int) := by omega
          by_cases hxy : C.getD j (0, []) = D.getD j (0, [])
          · have HQ2 : Hid (∀ i, i < j + 1 → C.getD i (0, []) = D.getD i (0, [])) := Lib.hid (fun i hi => by
              by_cases e : i = j
              · rw [e]; exact hxy
              · exact HQ.out i (by omega))
            rw [← hxy] at q0 q1
            clear hxy
            generalize C.getD j (0, []) = x at p0 p1 q0 q1
            obtain ⟨xk, xs⟩ := x
            simp only at p0 p1 q0 q1
            go_wp2_with fail
            go_quiet (fail)
            go_wp2
            exact ⟨⟨j + 1, by omega, by go_num, HQ2, Lib.hid ⟨HK.out.1.drewN _, HK.out.2.drewN _⟩, bd_q hb _⟩, by simp [intOf]; omega⟩
          · have HN := Lib.hid (HP.out j hxy)
            have hx : (C.getD j (0, []) == D.getD j (0, [])) = false := by simp only [beq_eq_false_iff_ne]; exact hxy
            clear hxy
            generalize C.getD j (0, []) = x at p0 p1 hx
            generalize D.getD j (0, []) = y at q0 q1 hx
            obtain ⟨xk, xs⟩ := x
            obtain ⟨yk, ys⟩ := y
            simp only at p0 p1 q0 q1
            by_cases hk2 : xk = yk
            · subst hk2
              have hx2 : (xs == ys) = false := by simpa using hx
              have hx3 : (xs != ys) = true := by simp [bne, hx2]
              clear hx
              go_wp2_with fail
              go_quiet (fail)
              go_wp2
              go_ret
              rw [HN.out]
              exact ⟨rfl, bd_q hb _⟩
            · have hx2 : (xk == yk) = false := by simpa using hk2
              have hx3 : (xk != yk) = true := by simp [bne, hx2]
              clear hx hk2
              go_wp2_with fail
              go_quiet (fail)
              go_wp2
              go_ret
              rw [HN.out]
              exact ⟨rfl, bd_q hb _⟩
        · obtain rfl : j = m := by omega
          go_wp2
          go_ret
          rw [HY.out HJ.out HQ.out]
          exact ⟨rfl, hb⟩

/-- Same, of any two devices that can be read. -/
theorem dsame_any (A1 A2 B1 B2 : Option Addr) (c1 c2 d1 d2 n1 n2 m1 m2 : Nat) (S T : List (List UInt8)) (C D : List PutL) (w : World) (hA1 : SR w A1 S) (hA2 : SR w A2 T) (hB1 : PR w B1 C) (hB2 : PR w B2 D) (hS : S.length = n1) (hT : T.length = n2) (hC : C.length = m1) (hD : D.length = m2) (hn : n1 ≤ 65536) (hm : m1 ≤ 65536) :
    Calls Try.prog 12 #[dv A1 n1 c1 B1 m1 d1, dv A2 n2 c2 B2 m2 d2] w fun e w' => e = .returned (.bool (decide (S = T ∧ C = D))) ∧ Below w.heap.size w w' := by
  by_cases h : n1 = n2 ∧ m1 = m2
  · obtain ⟨rfl, rfl⟩ := h
    exact dsame_loops A1 A2 B1 B2 c1 c2 d1 d2 n1 m1 S T C D w hA1 hA2 hB1 hB2 hS hT hC hD hn hm
  · have := dsame_sizes A1 A2 B1 B2 c1 c2 d1 d2 n1 n2 m1 m2 w h
    rw [not_both]
    · exact this
    · by_cases h1 : S = T
      · right
        intro h2
        exact h ⟨by rw [← hS, ← hT, h1], by rw [← hC, ← hD, h2]⟩
      · exact .inl h1
end Go.Proofs.Ytiibgbdhbamajaa
