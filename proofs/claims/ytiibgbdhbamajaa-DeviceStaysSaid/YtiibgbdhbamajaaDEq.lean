/- The contracts of slices.Equal of two rows, and of Like. -/
import Derived.Test.YtiibgbdhbamajaaDSame
namespace Go.Proofs.Ytiibgbdhbamajaa
open Go.RowKit

set_option maxRecDepth 100000 in
set_option maxHeartbeats 4000000 in
theorem eqs_any (A B : Option Addr) (c d n m : Nat) (L M : List (List UInt8)) (w : World) (hA : SR w A L) (hB : SR w B M) (hl : L.length = n) (hm : M.length = m) (hn : n ≤ 65536) (hn2 : m ≤ 65536) :
    Calls Try.prog 24 #[.slice A n c, .slice B m d] w fun e w' => e = .returned (.bool (decide (L = M))) ∧ Below w.heap.size w w' := by
  have HA := Lib.hid hA
  have HB := Lib.hid hB
  have HL := Lib.hid hl
  have HM := Lib.hid hm
  clear hA hB hl hm
  by_cases hnm : n = m
  · subst hnm
    clear hn2
    go_enter Try.func24, Try.ntmps24
    go_wp2_with fail
    go_loopw [13] (fun iv wr => ∃ k : Nat, k ≤ n ∧ iv = .int .i64 k ∧ Hid (∀ j, j < k → L.getD j [] = M.getD j []) ∧ Below w.heap.size w wr) (fun i _ => n - (intOf i).toNat)
    case atStart => exact ⟨0, Nat.zero_le _, rfl, Lib.hid (fun j hj => absurd hj (Nat.not_lt_zero j)), Below.refl _ _⟩
    case round =>
      obtain ⟨k, hk, rfl, HE, hb⟩ := hrel
      by_cases hlt : k < n
      · obtain ⟨g, off, rfl, c0⟩ := (HA.out.later hb) k (by rw [HL.out]; exact hlt)
        obtain ⟨g', off', rfl, d0⟩ := (HB.out.later hb) k (by rw [HM.out]; exact hlt)
        have i0 : (0 : Int) ≤ (k : Int) := by omega
        have i1 : (k : Int) < (n : Int) := by omega
        by_cases hxy : L.getD k [] = M.getD k []
        · have HE2 : Hid (∀ j, j < k + 1 → L.getD j [] = M.getD j []) := Lib.hid (fun j hj => by
            by_cases e : j = k
            · rw [e]; exact hxy
            · exact HE.out j (by omega))
          rw [← hxy] at d0
          clear hxy
          generalize L.getD k [] = x at c0 d0
          go_wp2_with fail
          go_quiet (fail)
          go_wp2
          exact ⟨⟨k + 1, by omega, by go_num, HE2, bd_q hb _⟩, by simp [intOf]; omega⟩
        · have HN : Hid (decide (L = M) = false) := Lib.hid (by simp; intro e; exact hxy (by rw [e]))
          have hx : (L.getD k [] == M.getD k []) = false := by simp only [beq_eq_false_iff_ne]; exact hxy
          clear hxy
          generalize L.getD k [] = x at c0 hx
          generalize M.getD k [] = y at d0 hx
          have hx2 : (x != y) = true := by simp [bne, hx]
          go_wp2_with fail
          go_quiet (fail)
          go_wp2
          go_ret
          rw [HN.out]
          exact ⟨rfl, bd_q hb _⟩
      · obtain rfl : k = n := by omega
        have HY : Hid (decide (L = M) = true) := Lib.hid (by simp; exact getD_same [] HL.out HM.out HE.out)
        go_wp2
        go_ret
        rw [HY.out]
        exact ⟨rfl, hb⟩
  · have HN : Hid (decide (L = M) = false) := Lib.hid (by simp; intro e; exact hnm (by rw [← HL.out, ← HM.out, e]))
    have h1 : (n == m) = false := by simp; exact hnm
    have h2 : ((n : Int) == (m : Int)) = false := by simp; omega
    have h3 : ((n : Int) != (m : Int)) = true := by simp; omega
    clear hnm
    go_enter Try.func24, Try.ntmps24
    go_wp2_with fail
    go_ret
    rw [HN.out]
    exact ⟨rfl, Below.refl _ _⟩

set_option maxRecDepth 100000 in
set_option maxHeartbeats 4000000 in
theorem eqp_any (A B : Option Addr) (c d n m : Nat) (L M : List PutL) (w : World) (hA : PR w A L) (hB : PR w B M) (hl : L.length = n) (hm : M.length = m) (hn : n ≤ 65536) (hn2 : m ≤ 65536) :
    Calls Try.prog 25 #[.slice A n c, .slice B m d] w fun e w' => e = .returned (.bool (decide (L = M))) ∧ Below w.heap.size w w' := by
  have HA := Lib.hid hA
  have HB := Lib.hid hB
  have HL := Lib.hid hl
  have HM := Lib.hid hm
  clear hA hB hl hm
  by_cases hnm : n = m
  · subst hnm
    clear hn2
    go_enter Try.func25, Try.ntmps25
    go_wp2_with fail
    go_loopw [13] (fun iv wr => ∃ k : Nat, k ≤ n ∧ iv = .int .i64 k ∧ Hid (∀ j, j < k → L.getD j (0, []) = M.getD j (0, [])) ∧ Below w.heap.size w wr) (fun i _ => n - (intOf i).toNat)
    case atStart => exact ⟨0, Nat.zero_le _, rfl, Lib.hid (fun j hj => absurd hj (Nat.not_lt_zero j)), Below.refl _ _⟩
    case round =>
      obtain ⟨k, hk, rfl, HE, hb⟩ := hrel
      by_cases hlt : k < n
      · obtain ⟨g, off, rfl, p0, p1⟩ := (HA.out.later hb) k (by rw [HL.out]; exact hlt)
        obtain ⟨g', off', rfl, q0, q1⟩ := (HB.out.later hb) k (by rw [HM.out]; exact hlt)
        have i0 : (0 : Int) ≤ (k : Int) := by omega
        have i1 : (k : Int) < (n : Int) := by omega
        by_cases hxy : L.getD k (0, []) = M.getD k (0, [])
        · have HE2 : Hid (∀ j, j < k + 1 → L.getD j (0, []) = M.getD j (0, [])) := Lib.hid (fun j hj => by
            by_cases e : j = k
            · rw [e]; exact hxy
            · exact HE.out j (by omega))
          rw [← hxy] at q0 q1
          clear hxy
          generalize L.getD k (0, []) = x at p0 p1 q0 q1
          obtain ⟨xk, xs⟩ := x
          simp only at p0 p1 q0 q1
          go_wp2_with fail
          go_quiet (fail)
          go_wp2
          exact ⟨⟨k + 1, by omega, by go_num, HE2, bd_q hb _⟩, by simp [intOf]; omega⟩
        · have HN : Hid (decide (L = M) = false) := Lib.hid (by simp; intro e; exact hxy (by rw [e]))
          have hx : (L.getD k (0, []) == M.getD k (0, [])) = false := by simp only [beq_eq_false_iff_ne]; exact hxy
          clear hxy
          generalize L.getD k (0, []) = x at p0 p1 hx
          generalize M.getD k (0, []) = y at q0 q1 hx
          obtain ⟨xk, xs⟩ := x
          obtain ⟨yk, ys⟩ := y
          simp only at p0 p1 q0 q1
          by_cases hk2 : xk = yk
          · subst hk2
            have hx2 : (xs == ys) = false := by simpa using hx
            have hx3 : (xs != ys) = true := by simp [bne, hx2]
            clear hx
            go_wp2_with fail
            go_quiet (fail)
            go_wp2
            go_ret
            rw [HN.out]
            exact ⟨rfl, bd_q hb _⟩
          · have hx2 : (xk == yk) = false := by simpa using hk2
            have hx3 : (xk != yk) = true := by simp [bne, hx2]
            clear hx hk2
            go_wp2_with fail
            go_quiet (fail)
            go_wp2
            go_ret
            rw [HN.out]
            exact ⟨rfl, bd_q hb _⟩
      · obtain rfl : k = n := by omega
        have HY : Hid (decide (L = M) = true) := Lib.hid (by simp; exact getD_same (0, []) HL.out HM.out HE.out)
        go_wp2
        go_ret
        rw [HY.out]
        exact ⟨rfl, hb⟩
  · have HN : Hid (decide (L = M) = false) := Lib.hid (by simp; intro e; exact hnm (by rw [← HL.out, ← HM.out, e]))
    have h1 : (n == m) = false := by simp; exact hnm
    have h2 : ((n : Int) == (m : Int)) = false := by simp; omega
    have h3 : ((n : Int) != (m : Int)) = true := by simp; omega
    clear hnm
    go_enter Try.func25, Try.ntmps25
    go_wp2_with fail
    go_ret
    rw [HN.out]
    exact ⟨rfl, Below.refl _ _⟩

set_option maxRecDepth 100000 in
set_option maxHeartbeats 2000000 in
/-- Like, of any two devices that can be read. -/
theorem like_any (A1 A2 B1 B2 : Option Addr) (c1 c2 d1 d2 n1 n2 m1 m2 : Nat) (S T : List (List UInt8)) (C D : List PutL) (w : World) (hA1 : SR w A1 S) (hA2 : SR w A2 T) (hB1 : PR w B1 C) (hB2 : PR w B2 D) (hS : S.length = n1) (hT : T.length = n2) (hC : C.length = m1) (hD : D.length = m2) (hn1 : n1 ≤ 65536) (hn2 : n2 ≤ 65536) (hm1 : m1 ≤ 65536) (hm2 : m2 ≤ 65536) :
    Calls Try.prog 11 #[dv A1 n1 c1 B1 m1 d1, dv A2 n2 c2 B2 m2 d2] w fun e w' => e = .returned (.bool (decide (S = T ∧ C = D))) ∧ Below w.heap.size w w' := by
  have HE := Lib.hid (fun W (hb : Below w.heap.size w W) => eqs_any A1 A2 c1 c2 n1 n2 S T W (hA1.later hb) (hA2.later hb) hS hT hn1 hn2)
  have HF := Lib.hid (fun W (hb : Below w.heap.size w W) => eqp_any B1 B2 d1 d2 m1 m2 C D W (hB1.later hb) (hB2.later hb) hC hD hm1 hm2)
  have hd : decide (S = T ∧ C = D) = (decide (S = T) && decide (C = D)) := by by_cases h1 : S = T <;> by_cases h2 : C = D <;> simp [h1, h2]
  rw [hd]
  clear hd hA1 hA2 hB1 hB2 hS hT hC hD
  generalize decide (C = D) = Y at HF ⊢
  have k1 := (Blk.new w 25 #[.slice A1 n1 c1, .slice B1 m1 d1]).alloc (.cells #[.slice A2 n2 c2, .slice B2 m2 d2] 25)
  have k2 := Blk.new (w.alloc (.cells #[.slice A1 n1 c1, .slice B1 m1 d1] 25)) 25 #[.slice A2 n2 c2, .slice B2 m2 d2]
  simp only [World.size_alloc] at k2
  have hB0 : Below w.heap.size w ((w.alloc (.cells #[.slice A1 n1 c1, .slice B1 m1 d1] 25)).alloc (.cells #[.slice A2 n2 c2, .slice B2 m2 d2] 25)) := ba (ba (Below.refl _ _) _) _
  cases hX : decide (S = T) with
  | true =>
    rw [hX] at HE
    go_enter Try.func11, Try.ntmps11
    go_wp2_with fail
    refine (HE.out _ hB0).mono ?_
    rintro e w1 ⟨rfl, hb1⟩
    have a1 := (k1.below hb1).cell 1
    have b1 := (k2.below hb1).cell 1
    simp only [List.getElem?_toArray, List.getElem?_cons_zero, List.getElem?_cons_succ] at a1 b1
    have hB1 := bt hB0 hb1
    go_wp2_with fail
    refine (HF.out _ hB1).mono ?_
    rintro e w2 ⟨rfl, hb2⟩
    go_wp2
    go_ret
    exact ⟨rfl, bt hB1 hb2⟩
  | false =>
    rw [hX] at HE
    go_enter Try.func11, Try.ntmps11
    go_wp2_with fail
    refine (HE.out _ hB0).mono ?_
    rintro e w1 ⟨rfl, hb1⟩
    have hB1 := bt hB0 hb1
    go_wp2
    go_ret
    exact ⟨rfl, hB1⟩
end Go.Proofs.Ytiibgbdhbamajaa
