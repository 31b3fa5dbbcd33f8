/- The contracts of the reference: Bit, pow, Mul, Inv, Pow. -/
import Derived.Test.YtodolffolbkaaaaFPow
namespace Go.Proofs.Ytodolffolbkaaaa
open Go.RowKit

theorem xor_i64 (a b : Nat) (ha : a < 32768) (hb : b < 32768) : bits .xor .i64 (a : Int) (b : Int) = ((a ^^^ b : Nat) : Int) := by
  have h := xor_lt15 ha hb
  show IntKind.i64.wrap ((BitVec.ofInt 64 (a : Int) ^^^ BitVec.ofInt 64 (b : Int)).toNat : Nat) = _
  rw [BitVec.ofInt_natCast, BitVec.ofInt_natCast, BitVec.toNat_xor, BitVec.toNat_ofNat, BitVec.toNat_ofNat, Nat.mod_eq_of_lt (by omega), Nat.mod_eq_of_lt (by omega), IntKind.wrap_i64]
  omega

set_option maxRecDepth 100000 in
set_option maxHeartbeats 1000000 in
theorem rbit_any (n i : Nat) (w : World) (hn : (n : Int) ≤ 9223372036854775807) (hi : i ≤ 62) :
    Calls Try.prog 48 #[.int .i64 (n : Int), .int .i64 (i : Int)] w fun e w' => e = .returned (.int .i64 (n / 2 ^ i % 2 : Nat)) ∧ w = w' := by
  have hq : n / 2 ^ i ≤ 9223372036854775807 := Nat.le_trans (Nat.div_le_self _ _) (by omega)
  have hsh : (n : Int) / 2 ^ i = ((n / 2 ^ i : Nat) : Int) := by simp
  obtain ⟨q, hqq⟩ : ∃ q, n / 2 ^ i = q := ⟨_, rfl⟩
  rw [hqq] at hsh hq
  rw [hqq]
  have hand := and1_i64 q (by omega)
  obtain ⟨r, hr⟩ : ∃ r, q % 2 = r := ⟨_, rfl⟩
  rw [hr] at hand
  rw [hr]
  clear hqq hr
  go_enter Try.func48, Try.ntmps48
  go_wp2
  go_ret
  exact ⟨rfl, rfl⟩
set_option maxRecDepth 100000 in
set_option maxHeartbeats 1000000 in
theorem rpow_any (i : Nat) (w : World) (hi : i ≤ 10) :
    Calls Try.prog 49 #[.int .i64 (i : Int)] w fun e w' => e = .returned (.int .i64 (2 ^ i : Nat)) ∧ w = w' := by
  have hp : 2 ^ i ≤ 2 ^ 10 := Nat.pow_le_pow_right (by omega) hi
  have hw : (2 : Int) ^ i = ((2 ^ i : Nat) : Int) := by simp
  obtain ⟨q, hqq⟩ : ∃ q, 2 ^ i = q := ⟨_, rfl⟩
  rw [hqq] at hw hp
  rw [hqq]
  clear hqq
  have hw2 : IntKind.i64.wrap (q : Int) = (q : Int) := by rw [IntKind.wrap_i64]; omega
  go_enter Try.func49, Try.ntmps49
  go_wp2
  go_ret
  exact ⟨rfl, rfl⟩

theorem longN_bit (a b k : Nat) : longN a b (k + 1) = if b / 2 ^ k % 2 = 1 then longN a b k ^^^ (a * 2 ^ k) else longN a b k := by
  rw [longN, Nat.testBit_eq_decide_div_mod_eq]
  by_cases h : b / 2 ^ k % 2 = 1 <;> simp [h, sel]
theorem leftN_bit (n j : Nat) : leftN n (j + 1) = if leftN n j / 2 ^ (14 - j) % 2 = 1 then leftN n j ^^^ (283 * 2 ^ (6 - j)) else leftN n j := by
  rw [leftN, Nat.testBit_eq_decide_div_mod_eq]
  by_cases h : leftN n j / 2 ^ (14 - j) % 2 = 1 <;> simp [h, sel]

end Go.Proofs.Ytodolffolbkaaaa
