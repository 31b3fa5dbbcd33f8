/- The contracts of the small functions on numbers: isCount, wordsOf, noPlaces, placeBit, lastOf, filled, Bit. -/
import Derived.Test.YthknelpcdoebiaaZRow
namespace Go.Proofs.Ythknelpcdoebiaa
open Go.RowKit

set_option maxRecDepth 100000 in
set_option maxHeartbeats 1000000 in
theorem isCount_any (N : Int) (w : World) :
    Calls Try.prog 23 #[.int .i64 N] w fun e w' => e = .returned (.bool (decide (1 ≤ N) && decide (N ≤ 4096))) ∧ w = w' := by
  by_cases h1 : 1 ≤ N
  · go_enter Try.func23, Try.ntmps23
    go_wp2
    go_ret
    simp [h1]
  · go_enter Try.func23, Try.ntmps23
    go_wp2
    go_ret
    simp
    omega

set_option maxRecDepth 100000 in
set_option maxHeartbeats 1000000 in
theorem wordsOf_any (n : Nat) (hn : n ≤ 4096) (w : World) :
    Calls Try.prog 24 #[.int .i64 (n : Int)] w fun e w' => e = .returned (.int .i64 ((zW n : Nat) : Int)) ∧ w = w' := by
  go_enter Try.func24, Try.ntmps24
  go_wp2
  go_ret
  refine ⟨?_, rfl⟩
  unfold zW
  go_num

set_option maxRecDepth 100000 in
set_option maxHeartbeats 1000000 in
theorem noPlaces_any (n : Nat) (h1 : 1 ≤ n) (hn : n ≤ 4096) (w : World) :
    Calls Try.prog 25 #[.int .i64 (n : Int)] w fun e w' => e = .returned (zq (zno n)) ∧ w = w' := by
  have HW := Lib.hid (fun w => wordsOf_any n hn w)
  obtain ⟨k, hk⟩ : ∃ k, zW n * 64 - n = k := ⟨_, rfl⟩
  have HZ := Lib.hid (zno_is h1 hk)
  have hz : n ≤ zW n * 64 ∧ zW n * 64 < n + 64 ∧ zW n ≤ 64 := by unfold zW; omega
  have hk2 : ((zW n : Nat) : Int) * 64 - (n : Int) = (k : Int) := by omega
  have hk3 : k < 64 := by omega
  generalize zW n = m at HW hk hk2 hz
  generalize zno n = z at HZ ⊢
  go_enter Try.func25, Try.ntmps25
  go_wp2_with fail
  refine (HW.out _).mono ?_
  rintro e w1 ⟨rfl, rfl⟩
  go_wp2
  go_ret
  refine ⟨?_, rfl⟩
  show Ending.returned (.int .u64 (bits BinOp.xor IntKind.u64 IntKind.u64.max (18446744073709551615 / 2 ^ k))) = _
  rw [znot_run, HZ.out]

set_option maxRecDepth 100000 in
set_option maxHeartbeats 1000000 in
theorem placeBit_any (i : Nat) (w : World) :
    Calls Try.prog 32 #[.int .i64 (i : Int)] w fun e w' => e = .returned (zq (2 ^ (i % 64))) ∧ w = w' := by
  have hm : ((i : Int) % 64) = ((i % 64 : Nat) : Int) := by omega
  have hlt : i % 64 < 64 := Nat.mod_lt _ (by omega)
  generalize i % 64 = k at hm hlt ⊢
  go_enter Try.func32, Try.ntmps32
  go_wp2
  go_ret
  refine ⟨?_, rfl⟩
  show Ending.returned (.int .u64 (IntKind.u64.wrap (2 ^ k))) = _
  rw [zone_shl hlt]

set_option maxRecDepth 100000 in
set_option maxHeartbeats 1000000 in
theorem lastOf_any (k : Nat) (hk : k ≤ 4096) (w : World) :
    Calls Try.prog 38 #[.int .i64 (k : Int)] w fun e w' => e = .returned (.int .i64 ((64 * k + 63 : Nat) : Int)) ∧ w = w' := by
  go_enter Try.func38, Try.ntmps38
  go_wp2
  go_ret
  refine ⟨?_, rfl⟩
  go_num

set_option maxRecDepth 100000 in
set_option maxHeartbeats 1000000 in
theorem zfilled_any (x : Nat) (w : World) :
    Calls Try.prog 28 #[zq x] w fun e w' => e = .returned (.bool (x == Zfull)) ∧ w = w' := by
  by_cases h : x = 18446744073709551615
  · have h1 : ((x : Int) == 18446744073709551615) = true := by simp; omega
    have h2 : (x == Zfull) = true := by simp [h]
    rw [h2]
    clear h h2
    go_enter Try.func28, Try.ntmps28
    go_wp2
    go_ret
    exact ⟨rfl, rfl⟩
  · have h1 : ((x : Int) == 18446744073709551615) = false := by simp; omega
    have h2 : (x == Zfull) = false := by simp [h]
    rw [h2]
    clear h h2
    go_enter Try.func28, Try.ntmps28
    go_wp2
    go_ret
    exact ⟨rfl, rfl⟩

set_option maxRecDepth 100000 in
set_option maxHeartbeats 1000000 in
/-- The reference's Bit. -/
theorem zbit_any (x i : Nat) (hx : x < Z64) (hi : i ≤ 64) (w : World) :
    Calls Try.prog 27 #[zq x, .int .i64 (i : Int)] w fun e w' => e = .returned (.bool (x.testBit i)) ∧ w = w' := by
  have HE : Hid (x.testBit i = ((x / 2 ^ i) % 2 == 1)) := Lib.hid (by rw [Nat.testBit_eq_decide_div_mod_eq]; rfl)
  rw [HE.out]
  clear HE
  go_enter Try.func27, Try.ntmps27
  go_wp2_with fail
  go_loop [0, 5] (fun nv kv => ∃ k q : Nat, k ≤ i ∧ kv = .int .i64 k ∧ nv = zq q ∧ q < 18446744073709551616 ∧ Hid (q = x / 2 ^ k)) (fun _ kv => i - (intOf kv).toNat)
  case atStart => exact ⟨0, x, Nat.zero_le _, rfl, rfl, hx, Lib.hid (by simp)⟩
  case round =>
    obtain ⟨k, q, hk, rfl, rfl, hq, HQ⟩ := hrel
    by_cases hlt : k < i
    · have hkl : (k : Int) < (i : Int) := by omega
      go_wp2_with fail
      exact ⟨⟨k + 1, q / 2, by omega, by go_num, by go_num, by omega, Lib.hid (by rw [HQ.out, Nat.div_div_eq_div_mul, Nat.pow_succ])⟩, by simp [intOf]; omega⟩
    · obtain rfl : k = i := by omega
      go_wp2_with fail
      go_ret
      refine ⟨?_, rfl⟩
      rw [← HQ.out]
      have h2 := Nat.mod_two_eq_zero_or_one q
      rcases h2 with h2 | h2
      · have h3 : ((q : Int) % 2) = 0 := by omega
        simp [h2, h3]
      · have h3 : ((q : Int) % 2) = 1 := by omega
        simp [h2, h3]
end Go.Proofs.Ythknelpcdoebiaa
