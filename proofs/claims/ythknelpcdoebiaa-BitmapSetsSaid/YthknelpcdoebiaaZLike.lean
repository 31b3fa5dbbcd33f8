/- The contracts of Like, of the reference's Same and of the law's few. -/
import Derived.Test.YthknelpcdoebiaaZGetC
import Derived.Test.YthknelpcdoebiaaZEq
namespace Go.Proofs.Ythknelpcdoebiaa
open Go.RowKit

abbrev zboxes (w : World) (N : Int) (A : Option Addr) (n c F : Nat) (M : Int) (B : Option Addr) (m d G : Nat) : World := (zbox w N A n c F).alloc (.cells (zcs M B m d G) 25)
/-- Whether two maps are the same. -/
def zsame (N : Int) (L : List Nat) (F : Nat) (M : Int) (K : List Nat) (G : Nat) : Bool := (decide (N = M) && decide (F = G)) && decide (L = K)

set_option maxRecDepth 100000 in
set_option maxHeartbeats 2000000 in
theorem like_walk (N M : Int) (A B : Option Addr) (n c F m d G : Nat) (r : Bool) (w : World)
    (HE : Hid (∀ W, Below w.heap.size w W → Calls Try.prog 29 #[.slice A n c, .slice B m d] W fun e w' => e = .returned (.bool r) ∧ Below W.heap.size W w'))
    (b1 b2 : Bool) (h1 : (N == M) = b1) (h2 : ((F : Int) == (G : Int)) = b2) :
    Calls Try.prog 11 #[zbv N A n c F, zbv M B m d G] w fun e w' => e = .returned (.bool ((b1 && b2) && r)) ∧ Below w.heap.size w w' := by
  have HB : Hid (Below w.heap.size w (zboxes w N A n c F M B m d G)) := Lib.hid (ba (zbox_below w N A n c F) _)
  have hB := HB.out
  cases b1 with
  | false =>
    go_enter Try.func11, Try.ntmps11
    go_wp2
    go_ret
    exact ⟨rfl, hB⟩
  | true =>
    cases b2 with
    | false =>
      go_enter Try.func11, Try.ntmps11
      go_wp2
      go_ret
      exact ⟨rfl, hB⟩
    | true =>
      clear hB
      go_enter Try.func11, Try.ntmps11
      go_wp2_with fail
      refine (HE.out _ HB.out).mono ?_
      rintro e1 w1 ⟨rfl, hb1⟩
      go_wp2
      go_ret
      exact ⟨by cases r <;> rfl, bt HB.out hb1⟩

/-- Like, of any two maps that can be read. -/
theorem zlike_any (N M : Int) (A B : Option Addr) (n c F m d G : Nat) (L K : List Nat) (w : World) (hA : ZM w A n c L F) (hB : ZM w B m d K G) :
    Calls Try.prog 11 #[zbv N A n c F, zbv M B m d G] w fun e w' => e = .returned (.bool (zsame N L F M K G)) ∧ Below w.heap.size w w' := by
  refine (like_walk N M A B n c F m d G _ w (Lib.hid fun W hb => zeq_any A B c d n m L K W (hA.row.later hb) (hB.row.later hb) hA.len hB.len (by have := hA.few; omega) (by have := hB.few; omega)) _ _ rfl rfl).mono ?_
  rintro e w' ⟨rfl, hb⟩
  refine ⟨?_, hb⟩
  unfold zsame
  have e1 : (N == M) = decide (N = M) := rfl
  have e2 : ((F : Int) == (G : Int)) = decide (F = G) := by rw [Bool.eq_iff_iff]; simp only [beq_iff_eq, decide_eq_true_eq]; omega
  rw [e1, e2]

set_option maxRecDepth 100000 in
set_option maxHeartbeats 4000000 in
theorem same_walk (N M : Int) (A B : Option Addr) (n c F m d G : Nat) (L K : List Nat) (w : World) (hA : ZRow w A L) (hB : ZRow w B K) (hl : L.length = n) (hm : K.length = m) (hn : n ≤ 70) (hn2 : m ≤ 70)
    (b1 b2 b3 : Bool) (h1 : (N == M) = b1) (h2 : ((F : Int) == (G : Int)) = b2) (h3 : ((n : Int) == (m : Int)) = b3) :
    Calls Try.prog 12 #[zbv N A n c F, zbv M B m d G] w fun e w' => e = .returned (.bool ((b1 && b2) && decide (L = K))) ∧ Below w.heap.size w w' := by
  have HB : Hid (Below w.heap.size w (zboxes w N A n c F M B m d G)) := Lib.hid (ba (zbox_below w N A n c F) _)
  have hB0 := HB.out
  have n1 : (N != M) = !b1 := by rw [← h1]; rfl
  have n2 : ((F : Int) != (G : Int)) = !b2 := by rw [← h2]; rfl
  have n3 : ((n : Int) != (m : Int)) = !b3 := by rw [← h3]; rfl
  cases b1 with
  | false =>
    simp only [Bool.not_false] at n1
    go_enter Try.func12, Try.ntmps12
    go_wp2
    go_ret
    exact ⟨rfl, hB0⟩
  | true =>
    simp only [Bool.not_true] at n1
    cases b2 with
    | false =>
      simp only [Bool.not_false] at n2
      go_enter Try.func12, Try.ntmps12
      go_wp2
      go_ret
      exact ⟨rfl, hB0⟩
    | true =>
      simp only [Bool.not_true] at n2
      cases b3 with
      | false =>
        simp only [Bool.not_false] at n3
        have HN : Hid (decide (L = K) = false) := Lib.hid (by
          simp only [decide_eq_false_iff_not]
          intro e
          rw [e, hm] at hl
          rw [hl] at h3
          simp at h3)
        go_enter Try.func12, Try.ntmps12
        go_wp2
        go_ret
        rw [HN.out]
        exact ⟨rfl, hB0⟩
      | true =>
        simp only [Bool.not_true] at n3
        obtain rfl : n = m := by have := beq_iff_eq.1 h3; omega
        have K1 : Hid (Blk (zboxes w N A n c F M B n d G) w.heap.size 25 (zcs N A n c F)) := Lib.hid ((zbox_blk w N A n c F).alloc _)
        have K2 : Hid (Blk (zboxes w N A n c F M B n d G) (w.heap.size + 1) 25 (zcs M B n d G)) := Lib.hid (Blk.newAt (by simp) _ _)
        have HA := Lib.hid (hA.later HB.out)
        have HK := Lib.hid (hB.later HB.out)
        have HL := Lib.hid hl
        have HM := Lib.hid hm
        clear hA hB hl hm hB0 h1 h2 h3
        go_enter Try.func12, Try.ntmps12
        go_wp2_with fail
        go_loopw [30] (fun iv wr => ∃ k : Nat, k ≤ n ∧ iv = .int .i64 k ∧ Hid (∀ j, j < k → L.getD j 0 = K.getD j 0) ∧ Hid (ZRow wr A L) ∧ Hid (ZRow wr B K) ∧ Hid (Blk wr w.heap.size 25 (zcs N A n c F)) ∧ Hid (Blk wr (w.heap.size + 1) 25 (zcs M B n d G)) ∧ Hid (Below w.heap.size w wr)) (fun i _ => n - (intOf i).toNat)
        case atStart => exact ⟨0, Nat.zero_le _, rfl, Lib.hid (fun j hj => absurd hj (Nat.not_lt_zero j)), HA, HK, K1, K2, HB⟩
        case round =>
          clear HA HK K1 K2 HB
          obtain ⟨k, hk, rfl, HE, HA, HK, K1, K2, HB⟩ := hrel
          by_cases hlt : k < n
          · obtain ⟨g, off, rfl, c0⟩ := HA.out k (by rw [HL.out]; exact hlt)
            obtain ⟨g', off', rfl, d0⟩ := HK.out k (by rw [HM.out]; exact hlt)
            have i0 : (0 : Int) ≤ (k : Int) := by omega
            have i1 : (k : Int) < (n : Int) := by omega
            have s0 := K1.out.cell 1
            have t0 := K2.out.cell 1
            simp only [List.getElem?_toArray, List.getElem?_cons_zero, List.getElem?_cons_succ] at s0 t0
            by_cases hxy : L.getD k 0 = K.getD k 0
            · have HE2 : Hid (∀ j, j < k + 1 → L.getD j 0 = K.getD j 0) := Lib.hid (fun j hj => by
                by_cases e : j = k
                · rw [e]; exact hxy
                · exact HE.out j (by omega))
              rw [← hxy] at d0
              clear hxy
              generalize L.getD k 0 = x at c0 d0
              go_wp2_with fail
              go_quiet (fail)
              go_wp2
              exact ⟨⟨k + 1, by omega, by go_num, HE2, HA, HK, K1, K2, Lib.hid (zdrew HB.out _)⟩, by simp [intOf]; omega⟩
            · have HN : Hid (decide (L = K) = false) := Lib.hid (by simp; intro e; exact hxy (by rw [e]))
              generalize L.getD k 0 = x at c0 hxy
              generalize K.getD k 0 = y at d0 hxy
              have hx : ((x : Int) == (y : Int)) = false := by simp only [beq_eq_false_iff_ne]; omega
              have hx2 : ((x : Int) != (y : Int)) = true := by simp only [bne, hx, Bool.not_false]
              clear hxy
              go_wp2_with fail
              go_quiet (fail)
              go_wp2
              go_ret
              rw [HN.out]
              exact ⟨rfl, zdrew HB.out _⟩
          · obtain rfl : k = n := by omega
            have HY : Hid (decide (L = K) = true) := Lib.hid (by simp; exact zgetD_same HL.out HM.out HE.out)
            go_wp2
            go_ret
            rw [HY.out]
            exact ⟨rfl, HB.out⟩

theorem zsame_any (N M : Int) (A B : Option Addr) (n c F m d G : Nat) (L K : List Nat) (w : World) (hA : ZM w A n c L F) (hB : ZM w B m d K G) :
    Calls Try.prog 12 #[zbv N A n c F, zbv M B m d G] w fun e w' => e = .returned (.bool (zsame N L F M K G)) ∧ Below w.heap.size w w' := by
  refine (same_walk N M A B n c F m d G L K w hA.row hB.row hA.len hB.len hA.few hB.few _ _ _ rfl rfl rfl).mono ?_
  rintro e w' ⟨rfl, hb⟩
  refine ⟨?_, hb⟩
  unfold zsame
  have e1 : (N == M) = decide (N = M) := rfl
  have e2 : ((F : Int) == (G : Int)) = decide (F = G) := by rw [Bool.eq_iff_iff]; simp only [beq_iff_eq, decide_eq_true_eq]; omega
  rw [e1, e2]

set_option maxRecDepth 100000 in
set_option maxHeartbeats 2000000 in
theorem zfew_any (N : Int) (A : Option Addr) (n c F : Nat) (w : World) (hn : n ≤ c) :
    Calls Try.prog 7 #[zbv N A n c F] w fun e w' => e = .returned (zbv N A (min n 70) c F) ∧ Below w.heap.size w w' := by
  go_enter Try.func7, Try.ntmps7
  go_wp2_with fail
  · have e : min n 70 = 70 := by omega
    rw [e]
    refine bodyPost_ret (map1_result rfl (Blk.newAt (g := w.heap.size + 1) (by simp) _ _)) rfl ?_
    exact ⟨rfl, ba (ba (Below.refl _ _) _) _⟩
  · have e : min n 70 = n := by omega
    rw [e]
    refine bodyPost_ret (map1_result rfl (Blk.newAt (g := w.heap.size + 1) (by simp) _ _)) rfl ?_
    exact ⟨rfl, ba (ba (Below.refl _ _) _) _⟩
end Go.Proofs.Ythknelpcdoebiaa
