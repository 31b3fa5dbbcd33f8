/- The contract of the reference's Right. -/
import Derived.Test.YthknelpcdoebiaaZGetC
namespace Go.Proofs.Ythknelpcdoebiaa
open Go.RowKit

theorem zright_not {N : Int} {L : List Nat} {F : Nat} (h : ∀ n : Nat, N = (n : Int) → ¬ ZR n L F) : zright N L F = false := by
  rw [Bool.eq_false_iff]
  intro e
  obtain ⟨n, hn, hr⟩ := zright_iff.1 e
  exact h n hn hr
theorem zfl_at {L : List Nat} (w : Nat) : (zfl L).testBit w = (decide (w < L.length) && (L.getD w 0 == Zfull)) := by unfold zfl; rw [zmk_bit]

set_option maxRecDepth 100000 in
set_option maxHeartbeats 2000000 in
theorem rright_no (N : Int) (A : Option Addr) (n c F : Nat) (w : World) (hn : n ≤ 70) (P : N < 1 ∨ (1 ≤ N ∧ 4096 < N) ∨ (1 ≤ N ∧ N ≤ 4096 ∧ 64 * (n : Int) < N) ∨ (1 ≤ N ∧ N ≤ 4096 ∧ N ≤ 64 * (n : Int) ∧ N + 64 ≤ 64 * (n : Int))) :
    Calls Try.prog 10 #[zbv N A n c F] w fun e w' => e = .returned (.bool false) ∧ Below w.heap.size w w' := by
  have HB := Lib.hid (zbox_below w N A n c F)
  rcases P with h | ⟨h1, h2⟩ | ⟨h1, h2, h3⟩ | ⟨h1, h2, h3, h4⟩
  all_goals
    go_enter Try.func10, Try.ntmps10
    go_wp2
    go_ret
    exact ⟨rfl, HB.out⟩

set_option maxRecDepth 100000 in
set_option maxHeartbeats 4000000 in
theorem rright_walk (k : Nat) (A : Option Addr) (n c F : Nat) (L : List Nat) (w : World) (hA : ZRow w A L) (hl : L.length = n) (hn : n ≤ 64) (h1 : 1 ≤ k) (h2 : k ≤ 4096) (h3 : k ≤ 64 * n) (h4 : 64 * n < k + 64)
    (HT : Hid (∀ W (i : Nat), i < 64 * n → Below w.heap.size w W → Calls Try.prog 17 #[zbv (k : Int) A n c F, .int .i64 (i : Int)] W fun e w' => e = .returned (.bool (ztk L i)) ∧ Below W.heap.size W w'))
    (HBi : Hid (∀ j : Nat, j < 64 → ∀ W, Calls Try.prog 27 #[zq F, .int .i64 (j : Int)] W fun e w' => e = .returned (.bool (F.testBit j)) ∧ W = w'))
    (HFi : Hid (∀ (j : Nat) W, Calls Try.prog 28 #[zq (L.getD j 0)] W fun e w' => e = .returned (.bool (L.getD j 0 == Zfull)) ∧ W = w'))
    (r : Bool) (H0 : Hid (∀ i, k ≤ i → i < 64 * n → ztk L i = false → r = false)) (H1 : Hid (∀ j, j < 64 → ¬ F.testBit j = (decide (j < n) && (L.getD j 0 == Zfull)) → r = false))
    (H2 : Hid ((∀ i, k ≤ i → i < 64 * n → ztk L i = true) → (∀ j, j < 64 → F.testBit j = (decide (j < n) && (L.getD j 0 == Zfull))) → r = true)) :
    Calls Try.prog 10 #[zbv (k : Int) A n c F] w fun e w' => e = .returned (.bool r) ∧ Below w.heap.size w w' := by
  have HB := Lib.hid (zbox_below w k A n c F)
  have HK := Lib.hid (zbox_blk w k A n c F)
  have HA := Lib.hid hA
  have HL := Lib.hid hl
  clear hA hl
  have g1 : ¬ (k : Int) < 1 := by omega
  have g2 : ¬ (4096 : Int) < (k : Int) := by omega
  have g3 : ¬ (64 : Int) * (n : Int) < (k : Int) := by omega
  have g4 : ¬ (k : Int) + 64 ≤ 64 * (n : Int) := by omega
  go_enter Try.func10, Try.ntmps10
  go_wp2_with fail
  go_loopw [3] (fun iv wr => ∃ i : Nat, i ≤ 64 * n ∧ k ≤ i ∧ iv = .int .i64 i ∧ Hid (∀ j, k ≤ j → j < i → ztk L j = true) ∧ Hid (Below w.heap.size w wr) ∧ Hid (Blk wr w.heap.size 25 (zcs k A n c F))) (fun iv _ => 64 * n - (intOf iv).toNat)
  case atStart => exact ⟨k, h3, Nat.le_refl _, rfl, Lib.hid (fun j h5 h6 => by omega), HB, HK⟩
  case round =>
    clear HB HK
    obtain ⟨i, hi, hki, rfl, HX, HB, HK⟩ := hrel
    obtain ⟨⟨q0, q1, q2⟩, _⟩ := zcells HK.out
    by_cases hlt : i < 64 * n
    · have hli : (i : Int) < 64 * (n : Int) := by omega
      go_wp2_with fail
      refine (HT.out _ i hlt HB.out).mono ?_
      rintro e2 w2 ⟨rfl, hb2⟩
      have B2 := Lib.hid (bt HB.out hb2)
      have K2 := Lib.hid (HK.out.below hb2)
      clear hb2 q0 q1 q2 HB HK
      cases hT : ztk L i with
      | true =>
        go_wp2_with fail
        exact ⟨⟨i + 1, by omega, by omega, by go_num, Lib.hid (fun j h5 h6 => by
          by_cases e : j = i
          · rw [e]; exact hT
          · exact HX.out j h5 (by omega)), B2, K2⟩, by simp [intOf]; omega⟩
      | false =>
        have hr := H0.out i hki hlt hT
        clear H0 H1 H2
        subst hr
        go_wp2
        go_ret
        exact ⟨rfl, B2.out⟩
    · obtain rfl : i = 64 * n := by omega
      clear H0
      have hli : ¬ ((64 * n : Nat) : Int) < 64 * (n : Int) := by omega
      generalize 64 * n = i at *
      go_wp2_with fail
      clear q0 q1 q2 hli
      go_loopw [4] (fun jv wr => ∃ j : Nat, j ≤ 64 ∧ jv = .int .i64 j ∧ Hid (∀ t, t < j → F.testBit t = (decide (t < n) && (L.getD t 0 == Zfull))) ∧ Hid (Below w.heap.size w wr) ∧ Hid (Blk wr w.heap.size 25 (zcs k A n c F))) (fun jv _ => 64 - (intOf jv).toNat)
      case atStart => exact ⟨0, by omega, rfl, Lib.hid (fun t ht => absurd ht (Nat.not_lt_zero t)), HB, HK⟩
      case round =>
        clear HB HK
        obtain ⟨j, hj, rfl, HY, HB, HK⟩ := hrel
        obtain ⟨⟨q0, q1, q2⟩, _⟩ := zcells HK.out
        by_cases hlt : j < 64
        · have hlj : (j : Int) < 64 := by omega
          have HBj := Lib.hid (HBi.out j hlt)
          have HFj := Lib.hid (HFi.out j)
          have hj0 : (0 : Int) ≤ (j : Int) := by omega
          have HS : Hid (F.testBit j = (decide (j < n) && (L.getD j 0 == Zfull)) → ∀ t, t < j + 1 → F.testBit t = (decide (t < n) && (L.getD t 0 == Zfull))) := Lib.hid (fun h t ht => by
            by_cases e : t = j
            · rw [e]; exact h
            · exact HY.out t (by omega))
          have HR := Lib.hid (H1.out j hlt)
          by_cases hjn : j < n
          · obtain ⟨g, off, rfl, c0⟩ := (HA.out.later HB.out) j (by rw [HL.out]; exact hjn)
            have hd : decide ((j : Int) < (n : Int)) = true := decide_eq_true (by omega)
            have hd2 : (j : Int) < (n : Int) := by omega
            have hd3 : decide (j < n) = true := decide_eq_true hjn
            rw [hd3, Bool.true_and] at HS HR
            clear hd3
            generalize (L.getD j 0 == Zfull) = b2 at HFj HS HR
            generalize F.testBit j = b1 at HBj HS HR
            generalize L.getD j 0 = x at c0 HFj
            cases b1 <;> cases b2
            all_goals
              go_wp2_with fail
              go_quiet (first | (go_at_call 27; exact Calls.quiet_of_same ((HBj.out _).mono fun _ _ ⟨h, k⟩ => ⟨h, k.symm⟩)) | (go_at_call 28; exact Calls.quiet_of_same ((HFj.out _).mono fun _ _ ⟨h, k⟩ => ⟨h, k.symm⟩)))
              go_wp2_with fail
            · exact ⟨⟨j + 1, by omega, by go_num, Lib.hid (HS.out (by simp)), Lib.hid (zdrew HB.out _), HK⟩, by simp [intOf]; omega⟩
            · go_ret
              exact ⟨by rw [HR.out (by simp)]; rfl, zdrew HB.out _⟩
            · go_ret
              exact ⟨by rw [HR.out (by simp)]; rfl, zdrew HB.out _⟩
            · exact ⟨⟨j + 1, by omega, by go_num, Lib.hid (HS.out (by simp)), Lib.hid (zdrew HB.out _), HK⟩, by simp [intOf]; omega⟩
          · have hd : decide ((j : Int) < (n : Int)) = false := decide_eq_false (by omega)
            have hd3 : decide (j < n) = false := decide_eq_false hjn
            rw [hd3, Bool.false_and] at HS HR
            clear hd3
            generalize F.testBit j = b1 at HBj HS HR
            cases b1
            all_goals
              go_wp2_with fail
              go_quiet ((go_at_call 27; exact Calls.quiet_of_same ((HBj.out _).mono fun _ _ ⟨h, k⟩ => ⟨h, k.symm⟩)))
              go_wp2_with fail
            · exact ⟨⟨j + 1, by omega, by go_num, Lib.hid (HS.out (by simp)), Lib.hid (zdrew HB.out _), HK⟩, by simp [intOf]; omega⟩
            · go_ret
              exact ⟨by rw [HR.out (by simp)]; rfl, zdrew HB.out _⟩
        · obtain rfl : j = 64 := by omega
          have hr := H2.out HX.out HY.out
          clear H1 H2
          subst hr
          go_wp2
          go_ret
          exact ⟨rfl, HB.out⟩

/-- The reference's Right, of any map that can be read. -/
theorem zrright_any (N : Int) (A : Option Addr) (n c F : Nat) (L : List Nat) (w : World) (hM : ZM w A n c L F) :
    Calls Try.prog 10 #[zbv N A n c F] w fun e w' => e = .returned (.bool (zright N L F)) ∧ Below w.heap.size w w' := by
  have hl := hM.len
  by_cases hP : 1 ≤ N ∧ N ≤ 4096 ∧ N ≤ 64 * (n : Int) ∧ 64 * (n : Int) < N + 64
  · obtain ⟨k, rfl⟩ : ∃ k : Nat, N = (k : Int) := ⟨N.toNat, by omega⟩
    have hW : L.length = zW k := by rw [hl]; unfold zW; omega
    refine rright_walk k A n c F L w hM.row hl (by omega) (by omega) (by omega) (by omega) (by omega)
      (Lib.hid fun W i hi hb => taken_any k A n c F L i W (hM.later hb) hi) (Lib.hid fun j hj W => zbit_any F j hM.flt (by omega) W) (Lib.hid fun j W => zfilled_any _ W) _
      (Lib.hid fun i h1 h2 h3 => ?_) (Lib.hid fun j h1 h2 => ?_) (Lib.hid fun h1 h2 => ?_)
    · refine zright_not fun m hm hr => ?_
      obtain rfl : k = m := by omega
      rw [hr.out i h1 (by rw [hl]; exact h2)] at h3
      cases h3
    · refine zright_not fun m hm hr => h2 ?_
      rw [hr.fl, zfl_at, hl]
    · refine zright_mk ⟨by omega, by omega, hW, fun i h3 h4 => h1 i h3 (by rw [← hl]; exact h4), ?_⟩
      refine zword_ext hM.flt (zfl_lt (by omega)) fun j hj => ?_
      rw [h2 j hj, zfl_at, hl]
  · have hz : zright N L F = false := zright_not fun m hm hr => hP (by have := hr.len64; have := hr.lo; have := hr.hi; omega)
    rw [hz]
    exact rright_no N A n c F w hM.few (by omega)
end Go.Proofs.Ythknelpcdoebiaa
