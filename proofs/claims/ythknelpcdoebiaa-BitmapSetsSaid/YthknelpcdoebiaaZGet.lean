/- The contracts of isPlace, isFull, isTaken and fullOf, and of the reference's Taken. -/
import Derived.Test.YthknelpcdoebiaaZFun
namespace Go.Proofs.Ythknelpcdoebiaa
open Go.RowKit

set_option maxRecDepth 100000 in
set_option maxHeartbeats 1000000 in
theorem isPlace_any (N : Int) (A : Option Addr) (n c F : Nat) (i : Int) (w : World) :
    Calls Try.prog 30 #[zbv N A n c F, .int .i64 i] w fun e w' => e = .returned (.bool (decide (0 ≤ i) && decide (i < N))) ∧ Below w.heap.size w w' := by
  have hB : Below w.heap.size w (w.alloc (.cells (zcs N A n c F) 25)) := ba (Below.refl _ _) _
  by_cases h1 : 0 ≤ i
  · go_enter Try.func30, Try.ntmps30
    go_wp2
    go_ret
    refine ⟨?_, hB⟩
    simp [h1]
  · go_enter Try.func30, Try.ntmps30
    go_wp2
    go_ret
    refine ⟨?_, hB⟩
    simp
    omega

set_option maxRecDepth 100000 in
set_option maxHeartbeats 1000000 in
theorem isFull_any (N : Int) (A : Option Addr) (n c F k : Nat) (hF : F < Z64) (hk : k < 64) (w : World) :
    Calls Try.prog 37 #[zbv N A n c F, .int .i64 (k : Int)] w fun e w' => e = .returned (.bool (F.testBit k)) ∧ Below w.heap.size w w' := by
  have hB : Below w.heap.size w (w.alloc (.cells (zcs N A n c F) 25)) := ba (Below.refl _ _) _
  have hz : bits .and .u64 ((F : Int) / 2 ^ k) 1 = (((F / 2 ^ k) % 2 : Nat) : Int) := by
    have h1 : (F : Int) / 2 ^ k = ((F / 2 ^ k : Nat) : Int) := by simp
    have := u64_and_nat (F / 2 ^ k) 1 (Nat.lt_of_le_of_lt (Nat.div_le_self _ _) hF) (by decide)
    rw [Nat.and_one_is_mod] at this
    rw [h1]
    exact this
  have hE : F.testBit k = decide ((F / 2 ^ k) % 2 = 1) := Nat.testBit_eq_decide_div_mod_eq ..
  rw [hE]
  clear hE
  have h2 := Nat.mod_two_eq_zero_or_one (F / 2 ^ k)
  generalize (F / 2 ^ k) % 2 = y at hz h2 ⊢
  go_enter Try.func37, Try.ntmps37
  go_wp2
  go_ret
  refine ⟨?_, hB⟩
  rcases h2 with rfl | rfl <;> simp

/-- A bit asked for with a mask. -/
theorem zmask (x j : Nat) : (((x &&& 2 ^ j : Nat) : Int) != 0) = x.testBit j := by
  have h : x &&& 2 ^ j = (x.testBit j).toNat * 2 ^ j := by
    apply Nat.eq_of_testBit_eq
    intro i
    rw [Nat.testBit_and, Nat.testBit_two_pow]
    by_cases e : j = i
    · subst e
      cases x.testBit j <;> simp
    · have e2 : decide (j = i) = false := by simp [e]
      rw [e2]
      cases x.testBit j
      · simp
      · simp only [Bool.toNat_true, Nat.one_mul, Bool.and_false, Nat.testBit_two_pow, e2]
  rw [h]
  have := Nat.two_pow_pos j
  cases x.testBit j
  · simp
  · simp only [Bool.toNat_true, Nat.one_mul]
    generalize 2 ^ j = y at this
    simp
    omega

set_option maxRecDepth 100000 in
set_option maxHeartbeats 1000000 in
theorem isTaken_any (N : Int) (A : Option Addr) (n c F : Nat) (L : List Nat) (i : Nat) (w : World) (hM : ZM w A n c L F) (hi : i < 64 * n) :
    Calls Try.prog 33 #[zbv N A n c F, .int .i64 (i : Int)] w fun e w' => e = .returned (.bool (ztk L i)) ∧ Below w.heap.size w w' := by
  have hB : Below w.heap.size w (w.alloc (.cells (zcs N A n c F) 25)) := ba (Below.refl _ _) _
  obtain ⟨g, off, rfl, c0⟩ := (hM.row.later hB) (i / 64) (by rw [hM.len]; omega)
  have hx := getD_lt hM.lt (i / 64)
  have HP := Lib.hid (fun w => placeBit_any i w)
  have hz := zmask (L.getD (i / 64) 0) (i % 64)
  have hb := zand_nat (L.getD (i / 64) 0) (2 ^ (i % 64)) hx (by rw [z64]; exact Nat.pow_lt_pow_right (by omega) (Nat.mod_lt _ (by omega)))
  have hd : ((i : Int) / 64) = ((i / 64 : Nat) : Int) := by omega
  have hlt : i / 64 < n := by omega
  have hw : IntKind.i64.wrap ((i / 64 : Nat) : Int) = ((i / 64 : Nat) : Int) := by
    have := hM.few
    rw [IntKind.wrap_i64]
    omega
  have h70 := hM.few
  have hcap := hM.cap
  clear hM
  unfold ztk
  generalize i / 64 = k at c0 hx hz hb hd hlt hw ⊢
  generalize i % 64 = j at HP hz hb ⊢
  generalize (L.getD k 0) = x at c0 hx hz hb ⊢
  rw [← hz]
  clear hz
  generalize x &&& 2 ^ j = z at hb ⊢
  generalize 2 ^ j = y at HP hb
  have k0 : (0 : Int) ≤ (k : Int) := by omega
  have k1 : (k : Int) < (n : Int) := by omega
  go_enter Try.func33, Try.ntmps33
  go_wp2_with fail
  go_quiet ((go_at_call 32; exact Calls.quiet_of_same ((HP.out _).mono fun _ _ ⟨h, k⟩ => ⟨h, k.symm⟩)))
  go_wp2
  go_ret
  exact ⟨rfl, zdrew hB _⟩

set_option maxRecDepth 100000 in
set_option maxHeartbeats 1000000 in
/-- The reference's Taken. -/
theorem taken_any (N : Int) (A : Option Addr) (n c F : Nat) (L : List Nat) (i : Nat) (w : World) (hM : ZM w A n c L F) (hi : i < 64 * n) :
    Calls Try.prog 17 #[zbv N A n c F, .int .i64 (i : Int)] w fun e w' => e = .returned (.bool (ztk L i)) ∧ Below w.heap.size w w' := by
  have hB : Below w.heap.size w (w.alloc (.cells (zcs N A n c F) 25)) := ba (Below.refl _ _) _
  obtain ⟨g, off, rfl, c0⟩ := (hM.row.later hB) (i / 64) (by rw [hM.len]; omega)
  have hx := getD_lt hM.lt (i / 64)
  have hj : i % 64 ≤ 64 := by omega
  have HP := Lib.hid (fun w => zbit_any (L.getD (i / 64) 0) (i % 64) hx hj w)
  have hd : ((i : Int) / 64) = ((i / 64 : Nat) : Int) := by omega
  have hd2 : ((i : Int) % 64) = ((i % 64 : Nat) : Int) := by omega
  have hlt : i / 64 < n := by omega
  have hw : IntKind.i64.wrap ((i / 64 : Nat) : Int) = ((i / 64 : Nat) : Int) := by
    have := hM.few
    rw [IntKind.wrap_i64]
    omega
  have h70 := hM.few
  have hcap := hM.cap
  clear hM
  unfold ztk
  generalize i / 64 = k at c0 hx HP hd hlt hw ⊢
  generalize i % 64 = j at HP hd2 ⊢
  generalize (L.getD k 0) = x at c0 hx HP ⊢
  have k0 : (0 : Int) ≤ (k : Int) := by omega
  have k1 : (k : Int) < (n : Int) := by omega
  go_enter Try.func17, Try.ntmps17
  go_wp2_with fail
  refine (HP.out _).mono ?_
  rintro e w1 ⟨rfl, rfl⟩
  go_wp2
  go_ret
  exact ⟨rfl, hB⟩

set_option maxRecDepth 100000 in
set_option maxHeartbeats 1000000 in
/-- The words that are full. -/
theorem fullOf_any (A : Option Addr) (n c : Nat) (L : List Nat) (w : World) (hA : ZRow w A L) (hl : L.length = n) (hn : n ≤ 64) :
    Calls Try.prog 26 #[.slice A n c] w fun e w' => e = .returned (zq (zfl L)) ∧ w = w' := by
  have HA := Lib.hid hA
  have HL := Lib.hid hl
  clear hA hl
  go_enter Try.func26, Try.ntmps26
  go_wp2_with fail
  go_loop [3, 4, 5, 8] (fun v3 v4 v5 v8 => ∃ k x : Nat, k ≤ n ∧ v8 = .int .i64 k ∧ v3 = zq x ∧ Hid (x = zmk k (fun w => L.getD w 0 == Zfull))) (fun _ _ _ v8 => n - (intOf v8).toNat)
  case atStart => exact ⟨0, 0, Nat.zero_le _, rfl, rfl, Lib.hid rfl⟩
  case round =>
    obtain ⟨k, x, hk, rfl, rfl, HX⟩ := hrel
    by_cases hlt : k < n
    · obtain ⟨g, off, rfl, c0⟩ := HA.out k (by rw [HL.out]; exact hlt)
      have hx : x < Z64 := by
        rw [HX.out]
        exact Nat.lt_of_lt_of_le (zmk_lt k _) (Nat.pow_le_pow_right (n := 2) (i := k) (j := 64) (by omega) (by omega))
      have k0 : (0 : Int) ≤ (k : Int) := by omega
      have k1 : (k : Int) < (n : Int) := by omega
      have hs := zone_shl (k := k) (by omega)
      have HN := Lib.hid (zmk_last k (fun w => L.getD w 0 == Zfull))
      by_cases hf : L.getD k 0 = Zfull
      · have hf1 : (((L.getD k 0 : Nat) : Int) == 18446744073709551615) = true := by rw [hf]; rfl
        have hor := zor_pow hx (show k < 64 by omega)
        have HY : Hid (x ||| 2 ^ k = zmk (k + 1) (fun w => L.getD w 0 == Zfull)) := Lib.hid (by
          rw [HN.out, HX.out]
          have hlt2 := zmk_lt k (fun w => L.getD w 0 == Zfull)
          simp only [hf, beq_self_eq_true, Bool.toNat_true, Nat.one_mul]
          exact Nat.or_two_pow_eq_add_of_lt hlt2)
        generalize x ||| 2 ^ k = y at hor HY
        clear hf HN
        generalize L.getD k 0 = z at c0 hf1
        go_wp2_with fail
        exact ⟨⟨k + 1, y, by omega, by go_num, rfl, HY⟩, by simp [intOf]; omega⟩
      · have hf0 : (L.getD k 0 == Zfull) = false := by simpa only [beq_eq_false_iff_ne] using hf
        have hf1 : (((L.getD k 0 : Nat) : Int) == 18446744073709551615) = false := by
          generalize L.getD k 0 = z at hf
          simp only [beq_eq_false_iff_ne]
          intro e
          apply hf
          show z = 18446744073709551615
          omega
        have HY : Hid (x = zmk (k + 1) (fun w => L.getD w 0 == Zfull)) := Lib.hid (by
          rw [HN.out, HX.out]
          simp only [hf0, Bool.toNat_false, Nat.zero_mul, Nat.add_zero])
        clear hf hf0 HN
        generalize L.getD k 0 = z at c0 hf1
        go_wp2_with fail
        exact ⟨⟨k + 1, x, by omega, by go_num, rfl, HY⟩, by simp [intOf]; omega⟩
    · obtain rfl : k = n := by omega
      have HE : Hid (x = zfl L) := Lib.hid (by rw [HX.out]; unfold zfl; rw [HL.out])
      go_wp2_with fail
      go_ret
      rw [HE.out]
      exact ⟨rfl, rfl⟩
end Go.Proofs.Ythknelpcdoebiaa
