/- The contract of Mul: two bytes' product. -/
import Derived.Test.YtodolffolbkaaaaFDbl
namespace Go.Proofs.Ytodolffolbkaaaa
open Go.RowKit

theorem and1_u8 (b : Nat) (h : b < 256) : bits .and .u8 (b : Int) 1 = ((b % 2 : Nat) : Int) := by
  have h1 := u8_and_nat b 1 h (by omega)
  rw [Nat.and_one_is_mod] at h1
  exact h1
set_option maxRecDepth 100000 in
set_option maxHeartbeats 1000000 in
theorem mul_any (a b : Nat) (w : World) (ha : (a : Int) < 256) (hb : (b : Int) < 256) :
    Calls Try.prog 43 #[.int .u8 (a : Int), .int .u8 (b : Int)] w fun e w' => e = .returned (.int .u8 (cm a b : Nat)) ∧ w = w' := by
  have HC : Hid (mulF 8 0 a b = cm a b) := Lib.hid (by rw [mulF_is, Nat.zero_xor]; rfl)
  go_enter Try.func43, Try.ntmps43
  go_wp2_with fail
  go_loop [0, 1, 5] (fun av bv pv => ∃ k p x y : Nat, y < 2 ^ k ∧ k ≤ 8 ∧ av = .int .u8 (x : Int) ∧ bv = .int .u8 (y : Int) ∧ pv = .int .u8 (p : Int) ∧ (x : Int) < 256 ∧ (p : Int) < 256 ∧ (y : Int) < 256 ∧ Hid (mulF k p x y = cm a b)) (fun _ bv _ => (intOf bv).toNat)
  case atStart => exact ⟨8, 0, a, b, by omega, Nat.le_refl _, rfl, rfl, rfl, by omega, by omega, by omega, HC⟩
  case round =>
    clear HC
    obtain ⟨k, p, x, y, hy, hk, rfl, rfl, rfl, hx, hp, hyy, HF⟩ := hrel
    by_cases h0 : y = 0
    · subst h0
      have HE : Hid (cm a b = p) := Lib.hid (by rw [← HF.out, mulF_zero])
      go_wp2_with fail
      go_ret
      rw [HE.out]
      exact ⟨rfl, rfl⟩
    · obtain ⟨j, rfl⟩ : ∃ j, k = j + 1 := ⟨k - 1, by
        cases k with
        | zero => simp at hy; omega
        | succ k => rfl⟩
      have hy2 : y / 2 < 2 ^ j := by rw [Nat.pow_succ] at hy; omega
      have hand := and1_u8 y (by omega)
      have hy0 : ((y : Int) == 0) = false := by simp; omega
      have hy1 : ((y : Int) != 0) = true := by simp; omega
      have hlt := dbl_lt x
      have hlt' : ((dbl x : Nat) : Int) < 256 := by omega
      have HD := Lib.hid (dbl_any x w hx)
      have hpos : 0 < y := by omega
      clear hlt hy
      rcases Nat.mod_two_eq_zero_or_one y with hm | hm
      · rw [hm] at hand
        have HE : Hid (mulF j p (dbl x) (y / 2) = cm a b) := Lib.hid (by
          rw [← HF.out, mulF, Nat.testBit_eq_decide_div_mod_eq]; simp [hm, sel])
        have HM := Lib.hid hm
        clear hm h0
        go_wp2_with fail
        refine HD.out.mono ?_
        rintro e w1 ⟨rfl, rfl⟩
        go_wp2_with fail
        exact ⟨⟨j, p, dbl x, y / 2, hy2, by omega, rfl, by simp, rfl, hlt', hp, by omega, HE⟩, by simp [intOf]; omega⟩
      · rw [hm] at hand
        have hq : p ^^^ x < 256 := xor_lt8 (by omega) (by omega)
        have hxor := u8_xor_nat p x (by omega) (by omega)
        have HE : Hid (mulF j (p ^^^ x) (dbl x) (y / 2) = cm a b) := Lib.hid (by
          rw [← HF.out, mulF, Nat.testBit_eq_decide_div_mod_eq]; simp [hm, sel])
        have hq' : ((p ^^^ x : Nat) : Int) < 256 := by omega
        obtain ⟨q, hqq⟩ : ∃ q, p ^^^ x = q := ⟨_, rfl⟩
        rw [hqq] at hxor HE hq'
        have HM := Lib.hid hm
        clear hm h0 hq hqq
        go_wp2_with fail
        refine HD.out.mono ?_
        rintro e w1 ⟨rfl, rfl⟩
        go_wp2_with fail
        exact ⟨⟨j, q, dbl x, y / 2, hy2, by omega, rfl, by simp, rfl, hlt', hq', by omega, HE⟩, by simp [intOf]; omega⟩
end Go.Proofs.Ytodolffolbkaaaa
