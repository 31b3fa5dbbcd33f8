/- The contracts of Pow and Inv. -/
import Derived.Test.YtodolffolbkaaaaFMul
import Derived.Test.YtodolffolbkaaaaFLen
import Derived.IntWalk
namespace Go.Proofs.Ytodolffolbkaaaa
open Go.RowKit

theorem bitLen_cov (x : Nat) (h : x < 2 ^ 64) : x < 2 ^ Lib.bitLen x := by
  have key : ∀ f x, x < 2 ^ f → x < 2 ^ Lib.bitLenAux f x := by
    intro f
    induction f with
    | zero => intro x h; exact h
    | succ f ih =>
      intro x h
      rw [Lib.bitLenAux]
      split
      · omega
      · have := ih (x / 2) (by rw [Nat.pow_succ] at h; omega)
        rw [Nat.add_comm 1, Nat.pow_succ]
        omega
  exact key 64 x h
theorem and1_i64 (b : Nat) (h : b < 9223372036854775808) : bits .and .i64 (b : Int) 1 = ((b % 2 : Nat) : Int) := by
  have h1 := (bits_nat .i64 63 (by decide) (fun n h0 h1 => by rw [IntKind.wrap_i64]; omega) b 1 h (by omega)).1
  rw [Nat.and_one_is_mod] at h1
  exact h1

set_option maxRecDepth 100000 in
set_option maxHeartbeats 1000000 in
theorem len_any (n : Nat) (w : World) (hn : (n : Int) ≤ 9223372036854775807) :
    Calls Try.prog 59 #[.int .u64 (n : Int)] w fun e w' => e = .returned (.int .i64 (Lib.bitLen n : Nat)) ∧ w = w' := by
  have H := Lib.hid (len64_any (n : Int) w (by omega) (by omega))
  go_enter Try.func59, Try.ntmps59
  go_wp2_with fail
  refine H.out.mono ?_
  rintro e w' ⟨rfl, rfl⟩
  go_wp2_with fail
  go_ret
  exact ⟨rfl, rfl⟩

set_option maxRecDepth 100000 in
set_option maxHeartbeats 2000000 in
theorem pow_any (a : Nat) (n : Int) (w : World) (ha : (a : Int) < 256) (hn : n ≤ 9223372036854775807) (hn0 : -9223372036854775808 ≤ n) :
    Calls Try.prog 55 #[.int .u8 (a : Int), .int .i64 n] w fun e w' => e = .returned (.int .u8 (pw a n.toNat : Nat)) ∧ w = w' := by
  have ha' : a < 256 := by omega
  obtain ⟨m, hm⟩ : ∃ m : Nat, n.toNat = m := ⟨_, rfl⟩
  have hmx : max n 0 = (m : Int) := by omega
  have hmb : (m : Int) ≤ 9223372036854775807 := by omega
  have hL := bitLen_cov m (by omega)
  have hL2 := Lib.bitLen_le m 63 (by omega) (by omega)
  have HL := Lib.hid (len_any m w hmb)
  obtain ⟨L, hLL⟩ : ∃ L, Lib.bitLen m = L := ⟨_, rfl⟩
  rw [hLL] at hL hL2 HL
  rw [hm]
  have HN : Hid (L = 0 ∨ n = (m : Int)) := Lib.hid (by
    by_cases h : 0 ≤ n
    · right; omega
    · left
      have : m = 0 := by omega
      subst this
      rw [← hLL]
      rfl)
  clear hLL hm
  go_enter Try.func55, Try.ntmps55
  go_wp2_with fail
  refine HL.out.mono ?_
  rintro e w' ⟨rfl, rfl⟩
  clear hmx
  have H0 : Hid (pw a (m % 2 ^ 0) = 1) := Lib.hid (by simp [Nat.mod_one, pw])
  have H1 : Hid (pw a (2 ^ 0) = a) := Lib.hid (pw_one ha')
  go_wp2_with fail
  go_loop [5, 6, 13] (fun pv sv iv => ∃ k p s : Nat, k ≤ L ∧ pv = .int .u8 (p : Int) ∧ sv = .int .u8 (s : Int) ∧ iv = .int .i64 (k : Int) ∧ (p : Int) < 256 ∧ (s : Int) < 256 ∧ Hid (pw a (m % 2 ^ k) = p) ∧ Hid (pw a (2 ^ k) = s)) (fun _ _ iv => L - (intOf iv).toNat)
  case atStart => exact ⟨0, 1, a, Nat.zero_le _, rfl, rfl, rfl, by omega, by omega, H0, H1⟩
  case round =>
    clear H0 H1
    obtain ⟨k, p, s, hk, rfl, rfl, rfl, hp, hs, HP, HS⟩ := hrel
    by_cases hlt : k < L
    · have HX := Lib.hid (pw_bit ha' m k)
      have HY := Lib.hid (pw_sq ha' k)
      rw [HP.out, HS.out] at HX
      rw [HS.out] at HY
      have hnm : n = (m : Int) := by
        rcases HN.out with h | h
        · omega
        · exact h
      subst hnm
      have hq : m / 2 ^ k ≤ 9223372036854775807 := Nat.le_trans (Nat.div_le_self _ _) (by omega)
      have hsh : (m : Int) / 2 ^ k = ((m / 2 ^ k : Nat) : Int) := by simp
      obtain ⟨q, hqq⟩ : ∃ q, m / 2 ^ k = q := ⟨_, rfl⟩
      rw [hqq] at hsh hq
      have hand := and1_i64 q (by omega)
      have HB : Hid (m.testBit k = decide (q % 2 = 1)) := Lib.hid (by rw [Nat.testBit_eq_decide_div_mod_eq, hqq])
      have hps := cm_lt (a := p) s (by omega)
      have hss := cm_lt (a := s) s (by omega)
      have hps' : ((cm p s : Nat) : Int) < 256 := by omega
      have hss' : ((cm s s : Nat) : Int) < 256 := by omega
      have HM := Lib.hid (mul_any p s w hp hs)
      have HM2 := Lib.hid (mul_any s s w hs hs)
      have hk63 : k ≤ 62 := by omega
      clear hps hss hqq HN hL
      rcases Nat.mod_two_eq_zero_or_one q with hm | hm
      · rw [hm] at hand
        rw [HB.out, hm] at HX
        have HE : Hid (pw a (m % 2 ^ (k + 1)) = p) := Lib.hid (by rw [HX.out]; simp)
        clear hm HX HB
        go_wp2_with fail
        refine HM2.out.mono ?_
        rintro e w1 ⟨rfl, rfl⟩
        go_wp2_with fail
        exact ⟨⟨k + 1, p, cm s s, by omega, rfl, rfl, by go_num, hp, hss', HE, HY⟩, by simp [intOf]; omega⟩
      · rw [hm] at hand
        rw [HB.out, hm] at HX
        have HE : Hid (pw a (m % 2 ^ (k + 1)) = cm p s) := Lib.hid (by rw [HX.out]; simp)
        clear hm HX HB
        go_wp2_with fail
        refine HM.out.mono ?_
        rintro e w1 ⟨rfl, rfl⟩
        go_wp2_with fail
        refine HM2.out.mono ?_
        rintro e w1 ⟨rfl, rfl⟩
        go_wp2_with fail
        exact ⟨⟨k + 1, cm p s, cm s s, by omega, rfl, rfl, by go_num, hps', hss', HE, HY⟩, by simp [intOf]; omega⟩
    · obtain rfl : k = L := by omega
      have HE : Hid (pw a m = p) := Lib.hid (by rw [← HP.out, Nat.mod_eq_of_lt hL])
      go_wp2_with fail
      go_ret
      rw [HE.out]
      exact ⟨rfl, rfl⟩

set_option maxRecDepth 100000 in
set_option maxHeartbeats 1000000 in
theorem inv_any (a : Nat) (w : World) (ha : (a : Int) < 256) :
    Calls Try.prog 42 #[.int .u8 (a : Int)] w fun e w' => e = .returned (.int .u8 (inv a : Nat)) ∧ w = w' := by
  have H := Lib.hid (pow_any a 254 w ha (by omega) (by omega))
  have HE : Hid (pw a (Int.toNat 254) = inv a) := Lib.hid (pw_254 (by omega))
  go_enter Try.func42, Try.ntmps42
  go_wp2_with fail
  refine H.out.mono ?_
  rintro e w' ⟨rfl, rfl⟩
  rw [HE.out]
  go_wp2_with fail
  go_ret
  exact ⟨rfl, rfl⟩
end Go.Proofs.Ytodolffolbkaaaa
