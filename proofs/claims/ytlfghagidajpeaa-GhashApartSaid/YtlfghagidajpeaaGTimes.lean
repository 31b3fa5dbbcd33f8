/- The contract of a polynomial's times. -/
import Derived.Test.YtlfghagidajpeaaGTold
namespace Go.Proofs.Ytlfghagidajpeaa
open Go.RowKit

theorem pol_index (B : Nat) {j : Nat} (h : j < 2) (W : World) : (Instr.index 40 (.agg (Pol B)) (.int .i64 (j : Int))).run Try.prog W = .ok (qv (wi B j)) W := by
  obtain rfl | rfl : j = 0 ∨ j = 1 := by omega
  · kernel_rfl
  · kernel_rfl
/-- After so many rounds: the product so far, and the left one, raised. -/
def tP (A B k : Nat) : Nat := pA A B k
def tA (A k : Nat) : Nat := gX k A
theorem tP_zero (A B : Nat) : tP A B 0 = 0 := rfl
theorem and_sel {x : Nat} (b : Bool) (h : x < B64) : bits .and .u64 (x : Int) ((msk b : Nat) : Int) = ((sel b x : Nat) : Int) := by
  rw [u64_and_nat x (msk b) h (sel_lt (by decide) (by decide)), and_msk b h]
/-- One round, told once. -/
theorem round_facts (A B k i j : Nat) (hj : j < 2) (hi : i < 64) (hk : 64 * j + i = k) : ∃ (b : Bool),
    ((shW (wi B j) i : Nat) : Int) / 9223372036854775808 = ((onb b : Nat) : Int) ∧
    bits .and .u64 ((w0 (tA A k) : Nat) : Int) ((msk b : Nat) : Int) = ((sel b (w0 (tA A k)) : Nat) : Int) ∧
    bits .and .u64 ((w1 (tA A k) : Nat) : Int) ((msk b : Nat) : Int) = ((sel b (w1 (tA A k)) : Nat) : Int) ∧
    bits .xor .u64 ((w0 (tP A B k) : Nat) : Int) ((sel b (w0 (tA A k)) : Nat) : Int) = ((w0 (tP A B (k + 1)) : Nat) : Int) ∧
    bits .xor .u64 ((w1 (tP A B k) : Nat) : Int) ((sel b (w1 (tA A k)) : Nat) : Int) = ((w1 (tP A B (k + 1)) : Nat) : Int) ∧
    IntKind.u64.wrap (((shW (wi B j) i : Nat) : Int) * 2) = ((shW (wi B j) (i + 1) : Nat) : Int) := by
  refine ⟨B.testBit k, ?_, and_sel _ (w0_lt _), and_sel _ (w1_lt _), ?_, ?_, ?_⟩
  · have := shW_top B hj hi
    rw [hk] at this
    unfold onb
    rw [← this]
    rfl
  · rw [u64_xor_nat _ _ (w0_lt _) (sel_lt (by decide) (w0_lt _)), ← w0_sel, ← w0_xor]; rfl
  · rw [u64_xor_nat _ _ (w1_lt _) (sel_lt (by decide) (w1_lt _)), ← w1_sel, ← w1_xor]; rfl
  · rw [IntKind.wrap_u64, ← shW_more]
    rfl
theorem tA_more (A k : Nat) (w : World) : Calls Try.prog 31 #[qv (w0 (tA A k)), qv (w1 (tA A k))] w fun e w' => e = .returned (.tuple #[qv (w0 (tA A (k + 1))), qv (w1 (tA A (k + 1)))]) ∧ w = w' := raised_any _ w
theorem w_nil : w0 0 = 0 ∧ w1 0 = 0 := by decide +kernel

set_option maxRecDepth 100000 in
set_option maxHeartbeats 4000000 in
theorem times_any (A B : Nat) (w : World) (hB : B < B128) :
    Calls Try.prog 19 #[.agg (Pol A), .agg (Pol B)] w fun e w' => e = .returned (.agg (Pol (gm A B))) ∧ Below w.heap.size w w' := by
  have HX := Lib.hid (fun (j : Nat) (hj : j < 2) => pol_index B hj)
  have HR := Lib.hid (round_facts A B)
  have HA := Lib.hid (tA_more A)
  have HG : Hid (tP A B 128 = gm A B) := Lib.hid (pA_all hB)
  have HS := Lib.hid (fun j => shW_zero (wi_lt B j))
  have HPL := Lib.hid (plen (gm A B))
  have H00 : Hid (w0 (tP A B 0) = 0 ∧ w1 (tP A B 0) = 0) := Lib.hid w_nil
  have c0 : ∀ g (W : World), Blk W g 40 (Pol A) → W.cell? ⟨g, 0, none⟩ = some (qv (w0 (tA A 0))) ∧ W.cell? ⟨g, 1, none⟩ = some (qv (w1 (tA A 0))) := fun g W h => ⟨h.cell 0, h.cell 1⟩
  have C0 := Lib.hid c0
  have HLB := Lib.hid (plen B)
  clear hB c0
  go_enter Try.func19, Try.ntmps19
  go_upto_region 2 with fail
  have BA := ((Blk.new w 40 (Pol A)).alloc (.cells (Pol B) 40)).alloc (.cells #[.int .u64 0, .int .u64 0] 40)
  have BB : Blk (((w.alloc (.cells (Pol A) 40)).alloc (.cells (Pol B) 40)).alloc (.cells #[.int .u64 0, .int .u64 0] 40)) (w.heap.size + 1) 40 (Pol B) := (Blk.newAt (by simp) _ _).alloc _
  have BZ : Blk (((w.alloc (.cells (Pol A) 40)).alloc (.cells (Pol B) 40)).alloc (.cells #[.int .u64 0, .int .u64 0] 40)) (w.heap.size + 1 + 1) 40 #[.int .u64 0, .int .u64 0] := Blk.newAt (by simp) _ _
  have hb0 := ba (ba (ba (Below.refl w.heap.size w) (.cells (Pol A) 40)) (.cells (Pol B) 40)) (.cells #[.int .u64 0, .int .u64 0] 40)
  obtain ⟨wm, hwm⟩ : ∃ wm, ((w.alloc (.cells (Pol A) 40)).alloc (.cells (Pol B) 40)).alloc (.cells #[.int .u64 0, .int .u64 0] 40) = wm := ⟨_, rfl⟩
  rw [hwm] at BA BB BZ hb0 ⊢
  have hc0 := (C0.out _ _ BA).1
  have hc1 := (C0.out _ _ BA).2
  have HBB := Lib.hid BB.drew
  have HBZ := Lib.hid BZ.drew
  have hbd := hb0.drew
  have HAZ : Hid (Value.int .u64 0 = qv (w0 (tP A B (64 * 0))) ∧ Value.int .u64 0 = qv (w1 (tP A B (64 * 0)))) := Lib.hid ⟨by rw [Nat.mul_zero, H00.out.1]; rfl, by rw [Nat.mul_zero, H00.out.2]; rfl⟩
  clear hwm BA BB BZ C0 H00 hb0
  go_region
  clear hc0 hc1
  go_wp2_with (refine wpList_load_row rfl _ _ rfl _ rfl _ _ _ _ HBB.out Try.underlying40 rfl HLB.out ?_)
  go_loopw [5, 6, 7, 8, 17] (fun fv sv av bv iv wr => ∃ j : Nat, j ≤ 2 ∧ iv = .int .i64 j ∧ fv = qv (w0 (tP A B (64 * j))) ∧ sv = qv (w1 (tP A B (64 * j))) ∧ av = qv (w0 (tA A (64 * j))) ∧ bv = qv (w1 (tA A (64 * j))) ∧ Hid (Blk wr (w.heap.size + 1 + 1) 40 #[.int .u64 0, .int .u64 0]) ∧ Below w.heap.size w wr) (fun _ _ _ _ iv _ => 2 - (intOf iv).toNat)
  case atStart => exact ⟨0, Nat.zero_le _, rfl, HAZ.out.1, HAZ.out.2, rfl, rfl, HBZ, hbd⟩
  case round =>
    clear HBZ HBB hbd HAZ
    obtain ⟨j, hj, rfl, rfl, rfl, rfl, rfl, Z, hb⟩ := hrel
    by_cases hlt : j < 2
    · have hji : (j : Int) < 2 := by omega
      have hix := HX.out j hlt
      have HRJ := Lib.hid (fun k i (h1 : i < 64) (h2 : 64 * j + i = k) => HR.out k i j hlt h1 h2)
      have hs0 := HS.out j
      have HSJ : Hid (qv (wi B j) = qv (shW (wi B j) 0)) := Lib.hid (by rw [hs0])
      have HJE : Hid (64 * j + 64 = 64 * (j + 1)) := Lib.hid (by omega)
      generalize wi B j = x at hix HRJ HSJ
      clear hs0
      go_wp2_with fail
      rw [HSJ.out]
      clear hix
      go_loopw [5, 6, 7, 8, 10, 20] (fun fv sv av bv xv iv wr => ∃ i k : Nat, i ≤ 64 ∧ Hid (64 * j + i = k) ∧ iv = .int .i64 i ∧ xv = qv (shW x i) ∧ fv = qv (w0 (tP A B k)) ∧ sv = qv (w1 (tP A B k)) ∧ av = qv (w0 (tA A k)) ∧ bv = qv (w1 (tA A k)) ∧ Hid (Blk wr (w.heap.size + 1 + 1) 40 #[.int .u64 0, .int .u64 0]) ∧ Below w.heap.size w wr) (fun _ _ _ _ _ iv _ => 64 - (intOf iv).toNat)
      case atStart => exact ⟨0, 64 * j, Nat.zero_le _, Lib.hid rfl, rfl, rfl, rfl, rfl, rfl, rfl, Z, hb⟩
      case round =>
        clear Z hb
        obtain ⟨i, k, hi, HK, rfl, rfl, rfl, rfl, rfl, rfl, Z, hb⟩ := hrel
        by_cases hli : i < 64
        · obtain ⟨b, e1, e2, e3, e4, e5, e6⟩ := HRJ.out k i hli HK.out
          have HRA := Lib.hid (fun W => HA.out k W)
          have HAL := Lib.hid (fun W => allOf_any b W)
          have HK2 : Hid (64 * j + (i + 1) = k + 1) := Lib.hid (by have := HK.out; omega)
          generalize w0 (tP A B k) = p0 at e4 ⊢
          generalize w1 (tP A B k) = p1 at e5 ⊢
          generalize w0 (tA A k) = a0 at e2 e4 HRA ⊢
          generalize w1 (tA A k) = a1 at e3 e5 HRA ⊢
          obtain ⟨s0, hs0⟩ : ∃ s, sel b a0 = s := ⟨_, rfl⟩
          obtain ⟨s1, hs1⟩ : ∃ s, sel b a1 = s := ⟨_, rfl⟩
          rw [hs0] at e2 e4
          rw [hs1] at e3 e5
          obtain ⟨q0, hq0⟩ : ∃ s, w0 (tP A B (k + 1)) = s := ⟨_, rfl⟩
          obtain ⟨q1, hq1⟩ : ∃ s, w1 (tP A B (k + 1)) = s := ⟨_, rfl⟩
          obtain ⟨c0, hc0⟩ : ∃ s, w0 (tA A (k + 1)) = s := ⟨_, rfl⟩
          obtain ⟨c1, hc1⟩ : ∃ s, w1 (tA A (k + 1)) = s := ⟨_, rfl⟩
          obtain ⟨y, hy⟩ : ∃ s, shW x i = s := ⟨_, rfl⟩
          obtain ⟨z, hz⟩ : ∃ s, shW x (i + 1) = s := ⟨_, rfl⟩
          rw [hq0] at e4
          rw [hq1] at e5
          rw [hc0, hc1] at HRA
          rw [hy] at e1 e6 ⊢
          rw [hz] at e6
          generalize onb b = o at e1 HAL
          generalize msk b = m at e2 e3 HAL
          have HQ : Hid (q0 = w0 (tP A B (k + 1)) ∧ q1 = w1 (tP A B (k + 1)) ∧ c0 = w0 (tA A (k + 1)) ∧ c1 = w1 (tA A (k + 1)) ∧ z = shW x (i + 1)) := Lib.hid ⟨hq0.symm, hq1.symm, hc0.symm, hc1.symm, hz.symm⟩
          clear hs0 hs1 hq0 hq1 hc0 hc1 hy hz
          go_wp2_with fail
          refine (HAL.out _).mono ?_
          rintro e w' ⟨rfl, rfl⟩
          go_wp2_with fail
          refine (HRA.out _).mono ?_
          rintro e w' ⟨rfl, rfl⟩
          go_wp2_with fail
          exact ⟨⟨i + 1, k + 1, by omega, HK2, by go_num, by rw [HQ.out.2.2.2.2], by rw [HQ.out.1], by rw [HQ.out.2.1], by rw [HQ.out.2.2.1], by rw [HQ.out.2.2.2.1], Z, hb⟩, by simp [intOf]; omega⟩
        · obtain rfl : i = 64 := by omega
          have hk := HK.out
          rw [HJE.out] at hk
          subst hk
          clear hli hi HK
          go_wp2_with fail
          exact ⟨⟨j + 1, by omega, by go_num, rfl, rfl, rfl, rfl, Z, hb⟩, by simp [intOf]; omega⟩
    · obtain rfl : j = 2 := by omega
      have hg := HG.out
      rw [show 64 * 2 = 128 from rfl, hg]
      have HZ := Z
      obtain ⟨G, hG⟩ : ∃ G, gm A B = G := ⟨_, rfl⟩
      rw [hG] at HPL ⊢
      have HGE := Lib.hid hG
      clear HG hg hG
      go_wp2_with (refine wpList_store_mid rfl _ _ _ rfl _ _ (Pol G) rfl rfl (HZ.out.there (by simp)) HPL.out (by kernel_rfl) ?_)
      have hW := HZ.out.whole (Pol G).toList rfl
      refine bodyPost_ret (v := .agg (Pol G)) (results_cell_row rfl _ _ _ _ _ _ _ rfl hW Try.underlying40 rfl HPL.out) rfl ?_
      exact ⟨by rw [HGE.out], bw hb (by omega) _ _⟩
end Go.Proofs.Ytlfghagidajpeaa
