/- The contract of the reference's Mul. -/
import Derived.Test.YtodolffolbkaaaaFRefA
namespace Go.Proofs.Ytodolffolbkaaaa
open Go.RowKit

set_option maxRecDepth 100000 in
set_option maxHeartbeats 2000000 in
theorem rmul_any (a b : Nat) (w : World) (ha : (a : Int) < 256) (hb : (b : Int) < 256) :
    Calls Try.prog 34 #[.int .u8 (a : Int), .int .u8 (b : Int)] w fun e w' => e = .returned (.int .u8 (cm a b : Nat)) ∧ w = w' := by
  have HC : Hid (leftN (longN a b 8) 7 % 256 = cm a b) := Lib.hid (rm_is (by omega) (by omega))
  go_enter Try.func34, Try.ntmps34
  go_wp2_with fail
  go_loop [5, 6] (fun nv iv => ∃ k n : Nat, k ≤ 8 ∧ nv = .int .i64 (n : Int) ∧ iv = .int .i64 (k : Int) ∧ Hid (n < 32768) ∧ Hid (longN a b k = n)) (fun _ iv => 8 - (intOf iv).toNat)
  case atStart => exact ⟨0, 0, by omega, rfl, rfl, Lib.hid (by omega), Lib.hid rfl⟩
  case round =>
    obtain ⟨k, n, hk, rfl, rfl, HB1, HN⟩ := hrel
    have hn := HB1.out
    have hn' : n < 4294967296 := by omega
    by_cases hlt : k < 8
    · have HS := Lib.hid (longN_bit a b k)
      rw [HN.out] at HS
      have HB := Lib.hid (rbit_any b k w (by omega) (by omega))
      have HP := Lib.hid (rpow_any k w (by omega))
      obtain ⟨r, hr⟩ : ∃ r, b / 2 ^ k % 2 = r := ⟨_, rfl⟩
      rw [hr] at HB HS
      have hp : 2 ^ k ≤ 2 ^ 7 := Nat.pow_le_pow_right (by omega) (by omega)
      obtain ⟨p, hpp⟩ : ∃ p, 2 ^ k = p := ⟨_, rfl⟩
      rw [hpp] at HP hp HS
      have hm : a * p ≤ 255 * 128 := Nat.mul_le_mul (by omega) (by omega)
      have hxor := xor_i64 n (a * p) (by omega) (by omega)
      have hx15 := xor_lt15 (a := n) (b := a * p) (by omega) (by omega)
      have hmul : IntKind.i64.wrap ((a : Int) * (p : Int)) = ((a * p : Nat) : Int) := by rw [← Int.natCast_mul, IntKind.wrap_i64]; omega
      obtain ⟨m, hmm⟩ : ∃ m, a * p = m := ⟨_, rfl⟩
      rw [hmm] at hmul hxor hx15 HS
      obtain ⟨x, hxx⟩ : ∃ x, n ^^^ m = x := ⟨_, rfl⟩
      rw [hxx] at hxor hx15 HS
      have hx15' : Hid (x < 32768) := Lib.hid hx15
      by_cases h1 : r = 1
      · have HE : Hid (longN a b (k + 1) = x) := Lib.hid (by rw [HS.out, if_pos h1])
        subst h1
        clear hr hpp hm hmm hxx hx15 HS hn
        go_wp2_with fail
        refine HB.out.mono ?_
        rintro e w1 ⟨rfl, rfl⟩
        go_wp2_with fail
        refine HP.out.mono ?_
        rintro e w1 ⟨rfl, rfl⟩
        go_wp2_with fail
        exact ⟨⟨k + 1, x, by omega, rfl, by go_num, hx15', HE⟩, by simp [intOf]; omega⟩
      · have HE : Hid (longN a b (k + 1) = n) := Lib.hid (by rw [HS.out, if_neg h1])
        have h1' : ((r : Int) == 1) = false := by simp; omega
        clear hr hpp hm hmm hxx hx15 HS hn h1
        go_wp2_with fail
        refine HB.out.mono ?_
        rintro e w1 ⟨rfl, rfl⟩
        go_wp2_with fail
        exact ⟨⟨k + 1, n, by omega, rfl, by go_num, HB1, HE⟩, by simp [intOf]; omega⟩
    · obtain rfl : k = 8 := by omega
      rw [HN.out] at HC
      clear HN hlt hk hn
      go_wp2_with fail
      go_loop [5, 7] (fun nv iv => ∃ j m : Nat, j ≤ 7 ∧ nv = .int .i64 (m : Int) ∧ iv = .int .i64 (14 - (j : Int)) ∧ Hid (m < 32768) ∧ Hid (leftN n j = m)) (fun _ iv => (intOf iv).toNat)
      case atStart => exact ⟨0, n, by omega, rfl, rfl, HB1, Lib.hid rfl⟩
      case round =>
        clear hn'
        obtain ⟨j, m, hj, rfl, rfl, HB2, HN⟩ := hrel
        have hm := HB2.out
        have hm' : m < 4294967296 := by omega
        by_cases hlt : j < 7
        · have HS := Lib.hid (leftN_bit n j)
          rw [HN.out] at HS
          obtain ⟨i, hi⟩ : ∃ i : Nat, 14 - j = i := ⟨_, rfl⟩
          obtain ⟨i8, hi8⟩ : ∃ i : Nat, 6 - j = i := ⟨_, rfl⟩
          rw [hi, hi8] at HS
          have HB := Lib.hid (rbit_any m i w (by omega) (by omega))
          have HP := Lib.hid (rpow_any i8 w (by omega))
          obtain ⟨r, hr⟩ : ∃ r, m / 2 ^ i % 2 = r := ⟨_, rfl⟩
          rw [hr] at HB HS
          have hp : 2 ^ i8 ≤ 2 ^ 6 := Nat.pow_le_pow_right (by omega) (by omega)
          obtain ⟨p, hpp⟩ : ∃ p, 2 ^ i8 = p := ⟨_, rfl⟩
          rw [hpp] at HP hp HS
          have hpm : 283 * p ≤ 283 * 64 := by omega
          have hxor := xor_i64 m (283 * p) (by omega) (by omega)
          have hx15 := xor_lt15 (a := m) (b := 283 * p) (by omega) (by omega)
          have hmul : (283 : Int) * (p : Int) = ((283 * p : Nat) : Int) := by omega
          obtain ⟨q, hqq⟩ : ∃ q, 283 * p = q := ⟨_, rfl⟩
          rw [hqq] at hmul hxor hx15 HS
          obtain ⟨x, hxx⟩ : ∃ x, m ^^^ q = x := ⟨_, rfl⟩
          rw [hxx] at hxor hx15 HS
          have hx15' : Hid (x < 32768) := Lib.hid hx15
          have hii : 14 - (j : Int) = (i : Int) := by omega
          have hii8 : (i : Int) - 8 = (i8 : Int) := by omega
          have hi1 : 8 ≤ i := by omega
          have hi2 : i ≤ 14 := by omega
          have hnx : (i : Int) - 1 = 14 - ((j + 1 : Nat) : Int) := by omega
          have HNX := Lib.hid hnx
          have HII := Lib.hid hii
          have HJ : Hid (j + 1 ≤ 7) := Lib.hid (by omega)
          rw [hii]
          clear hii hnx hi hi8 hqq hpm hpp hxx hx15 hlt hj hm
          by_cases h1 : r = 1
          · have HE : Hid (leftN n (j + 1) = x) := Lib.hid (by rw [HS.out, if_pos h1])
            subst h1
            clear hr HS
            go_wp2_with fail
            refine HB.out.mono ?_
            rintro e w1 ⟨rfl, rfl⟩
            go_wp2_with fail
            refine HP.out.mono ?_
            rintro e w1 ⟨rfl, rfl⟩
            go_wp2_with fail
            exact ⟨⟨j + 1, x, HJ.out, rfl, by rw [HNX.out], hx15', HE⟩, by simp [intOf]; omega⟩
          · have HE : Hid (leftN n (j + 1) = m) := Lib.hid (by rw [HS.out, if_neg h1])
            have h1' : ((r : Int) == 1) = false := by simp; omega
            clear hr HS h1
            go_wp2_with fail
            refine HB.out.mono ?_
            rintro e w1 ⟨rfl, rfl⟩
            go_wp2_with fail
            exact ⟨⟨j + 1, m, HJ.out, rfl, by rw [HNX.out], HB2, HE⟩, by simp [intOf]; omega⟩
        · obtain rfl : j = 7 := by omega
          rw [HN.out] at HC
          clear HN hlt hj hm
          go_wp2_with fail
          go_ret
          rw [← HC.out]
          exact ⟨by simp, rfl⟩
end Go.Proofs.Ytodolffolbkaaaa
