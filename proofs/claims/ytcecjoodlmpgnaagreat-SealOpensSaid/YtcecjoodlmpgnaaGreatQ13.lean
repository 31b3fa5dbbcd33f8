/- Texts of this seat, one behind the other: FRefB, FBox, FRefP, FTab2, FBoxes. -/
import Derived.Laws.Bits64b
import Derived.Laws.MakeOwn
import Derived.Test.YtcecjoodlmpgnaaGreatQ04
/- The contract of the reference's Mul. -/
namespace Go.Proofs.YtcecjoodlmpgnaaGreat
open Go.RowKit

set_option maxRecDepth 100000 in
set_option maxHeartbeats 2000000 in
theorem rmul_any (a b : Nat) (w : World) (ha : (a : Int) < 256) (hb : (b : Int) < 256) :
    Calls Tryz.prog 103 #[.int .u8 (a : Int), .int .u8 (b : Int)] w fun e w' => e = .returned (.int .u8 (cm a b : Nat)) ∧ w = w' := by
  have HC : Hid (leftN (longN a b 8) 7 % 256 = cm a b) := Lib.hid (rm_is (by omega) (by omega))
  go_enter Tryz.func103, Tryz.ntmps103
  go_wp2_with fail
  go_loop [5, 6] (fun nv iv => ∃ k n : Nat, k ≤ 8 ∧ nv = .int .i64 (n : Int) ∧ iv = .int .i64 (k : Int) ∧ Hid (n < 32768) ∧ Hid (longN a b k = n)) (fun _ iv => 8 - (intOf iv).toNat)
  case atStart => exact ⟨0, 0, by omega, rfl, rfl, Lib.hid (by omega), Lib.hid rfl⟩
  case round =>
    obtain ⟨k, n, hk, rfl, rfl, HB1, HN⟩ := hrel
    have hn := HB1.out
    have hn' : n < 4294967296 := by omega
    by_cases hlt : k < 8
    · have HS := Lib.hid (longN_bit a b k)
      rw [HN.out] at HS
      have HB := Lib.hid (rbit_any b k w (by omega) (by omega))
      have HP := Lib.hid (rpow_any k w (by omega))
      obtain ⟨r, hr⟩ : ∃ r, b / 2 ^ k % 2 = r := ⟨_, rfl⟩
      rw [hr] at HB HS
      have hp : 2 ^ k ≤ 2 ^ 7 := Nat.pow_le_pow_right (by omega) (by omega)
      obtain ⟨p, hpp⟩ : ∃ p, 2 ^ k = p := ⟨_, rfl⟩
      rw [hpp] at HP hp HS
      have hm : a * p ≤ 255 * 128 := Nat.mul_le_mul (by omega) (by omega)
      have hxor := xor_i64 n (a * p) (by omega) (by omega)
      have hx15 := xor_lt15 (a := n) (b := a * p) (by omega) (by omega)
      have hmul : IntKind.i64.wrap ((a : Int) * (p : Int)) = ((a * p : Nat) : Int) := by rw [← Int.natCast_mul, IntKind.wrap_i64]; omega
      obtain ⟨m, hmm⟩ : ∃ m, a * p = m := ⟨_, rfl⟩
      rw [hmm] at hmul hxor hx15 HS
      obtain ⟨x, hxx⟩ : ∃ x, n ^^^ m = x := ⟨_, rfl⟩
      rw [hxx] at hxor hx15 HS
      have hx15' : Hid (x < 32768) := Lib.hid hx15
      by_cases h1 : r = 1
      · have HE : Hid (longN a b (k + 1) = x) := Lib.hid (by rw [HS.out, if_pos h1])
        subst h1
        clear hr hpp hm hmm hxx hx15 HS hn
        go_wp2_with fail
        refine HB.out.mono ?_
        rintro e w1 ⟨rfl, rfl⟩
        go_wp2_with fail
        refine HP.out.mono ?_
        rintro e w1 ⟨rfl, rfl⟩
        go_wp2_with fail
        exact ⟨⟨k + 1, x, by omega, rfl, by go_num, hx15', HE⟩, by simp [intOf]; omega⟩
      · have HE : Hid (longN a b (k + 1) = n) := Lib.hid (by rw [HS.out, if_neg h1])
        have h1' : ((r : Int) == 1) = false := by simp; omega
        clear hr hpp hm hmm hxx hx15 HS hn h1
        go_wp2_with fail
        refine HB.out.mono ?_
        rintro e w1 ⟨rfl, rfl⟩
        go_wp2_with fail
        exact ⟨⟨k + 1, n, by omega, rfl, by go_num, HB1, HE⟩, by simp [intOf]; omega⟩
    · obtain rfl : k = 8 := by omega
      rw [HN.out] at HC
      clear HN hlt hk hn
      go_wp2_with fail
      go_loop [5, 7] (fun nv iv => ∃ j m : Nat, j ≤ 7 ∧ nv = .int .i64 (m : Int) ∧ iv = .int .i64 (14 - (j : Int)) ∧ Hid (m < 32768) ∧ Hid (leftN n j = m)) (fun _ iv => (intOf iv).toNat)
      case atStart => exact ⟨0, n, by omega, rfl, rfl, HB1, Lib.hid rfl⟩
      case round =>
        clear hn'
        obtain ⟨j, m, hj, rfl, rfl, HB2, HN⟩ := hrel
        have hm := HB2.out
        have hm' : m < 4294967296 := by omega
        by_cases hlt : j < 7
        · have HS := Lib.hid (leftN_bit n j)
          rw [HN.out] at HS
          obtain ⟨i, hi⟩ : ∃ i : Nat, 14 - j = i := ⟨_, rfl⟩
          obtain ⟨i8, hi8⟩ : ∃ i : Nat, 6 - j = i := ⟨_, rfl⟩
          rw [hi, hi8] at HS
          have HB := Lib.hid (rbit_any m i w (by omega) (by omega))
          have HP := Lib.hid (rpow_any i8 w (by omega))
          obtain ⟨r, hr⟩ : ∃ r, m / 2 ^ i % 2 = r := ⟨_, rfl⟩
          rw [hr] at HB HS
          have hp : 2 ^ i8 ≤ 2 ^ 6 := Nat.pow_le_pow_right (by omega) (by omega)
          obtain ⟨p, hpp⟩ : ∃ p, 2 ^ i8 = p := ⟨_, rfl⟩
          rw [hpp] at HP hp HS
          have hpm : 283 * p ≤ 283 * 64 := by omega
          have hxor := xor_i64 m (283 * p) (by omega) (by omega)
          have hx15 := xor_lt15 (a := m) (b := 283 * p) (by omega) (by omega)
          have hmul : (283 : Int) * (p : Int) = ((283 * p : Nat) : Int) := by omega
          obtain ⟨q, hqq⟩ : ∃ q, 283 * p = q := ⟨_, rfl⟩
          rw [hqq] at hmul hxor hx15 HS
          obtain ⟨x, hxx⟩ : ∃ x, m ^^^ q = x := ⟨_, rfl⟩
          rw [hxx] at hxor hx15 HS
          have hx15' : Hid (x < 32768) := Lib.hid hx15
          have hii : 14 - (j : Int) = (i : Int) := by omega
          have hii8 : (i : Int) - 8 = (i8 : Int) := by omega
          have hi1 : 8 ≤ i := by omega
          have hi2 : i ≤ 14 := by omega
          have hnx : (i : Int) - 1 = 14 - ((j + 1 : Nat) : Int) := by omega
          have HNX := Lib.hid hnx
          have HII := Lib.hid hii
          have HJ : Hid (j + 1 ≤ 7) := Lib.hid (by omega)
          rw [hii]
          clear hii hnx hi hi8 hqq hpm hpp hxx hx15 hlt hj hm
          by_cases h1 : r = 1
          · have HE : Hid (leftN n (j + 1) = x) := Lib.hid (by rw [HS.out, if_pos h1])
            subst h1
            clear hr HS
            go_wp2_with fail
            refine HB.out.mono ?_
            rintro e w1 ⟨rfl, rfl⟩
            go_wp2_with fail
            refine HP.out.mono ?_
            rintro e w1 ⟨rfl, rfl⟩
            go_wp2_with fail
            exact ⟨⟨j + 1, x, HJ.out, rfl, by rw [HNX.out], hx15', HE⟩, by simp [intOf]; omega⟩
          · have HE : Hid (leftN n (j + 1) = m) := Lib.hid (by rw [HS.out, if_neg h1])
            have h1' : ((r : Int) == 1) = false := by simp; omega
            clear hr HS h1
            go_wp2_with fail
            refine HB.out.mono ?_
            rintro e w1 ⟨rfl, rfl⟩
            go_wp2_with fail
            exact ⟨⟨j + 1, m, HJ.out, rfl, by rw [HNX.out], HB2, HE⟩, by simp [intOf]; omega⟩
        · obtain rfl : j = 7 := by omega
          rw [HN.out] at HC
          clear HN hlt hj hm
          go_wp2_with fail
          go_ret
          rw [← HC.out]
          exact ⟨by simp, rfl⟩
end Go.Proofs.YtcecjoodlmpgnaaGreat
/- The contracts of RotateLeft8, boxOf and Box. -/
namespace Go.Proofs.YtcecjoodlmpgnaaGreat
open Go.RowKit

theorem neg_mask7 (n : Nat) (h1 : 1 ≤ n) (h2 : n ≤ 7) : bits .and .u64 (IntKind.u64.wrap (-(n : Int))) 7 = ((8 - n : Nat) : Int) := by
  have key : ∀ n : Fin 8, 1 ≤ n.val → bits .and .u64 (IntKind.u64.wrap (-(n.val : Int))) 7 = ((8 - n.val : Nat) : Int) := by decide +kernel
  exact key ⟨n, by omega⟩ h1

set_option maxRecDepth 100000 in
set_option maxHeartbeats 1000000 in
theorem rot_any (x n : Nat) (w : World) (hx : (x : Int) < 256) (h1 : 1 ≤ n) (h2 : n ≤ 7) :
    Calls Tryz.prog 113 #[.int .u8 (x : Int), .int .i64 (-(n : Int))] w fun e w' => e = .returned (.int .u8 (rot x n : Nat)) ∧ w = w' := by
  have hm := neg_mask7 n h1 h2
  go_enter Tryz.func113, Tryz.ntmps113
  go_wp2
  go_ret
  refine ⟨?_, rfl⟩
  have e1 : (x : Int) / 2 ^ (8 - (8 - n)) = ((x / 2 ^ n : Nat) : Int) := by rw [show 8 - (8 - n) = n by omega]; simp
  have e2 : (x : Int) * 2 ^ (8 - n) % 256 = ((x * 2 ^ (8 - n) % 256 : Nat) : Int) := by simp
  have e3 : bits .or .u8 ((x : Int) * 2 ^ (8 - n) % 256) ((x : Int) / 2 ^ (8 - (8 - n))) = ((rot x n : Nat) : Int) := by
    rw [e1, e2, u8_or_nat _ _ (Nat.mod_lt _ (by omega)) (Nat.lt_of_le_of_lt (Nat.div_le_self _ _) (by omega)), Nat.or_comm]
    rfl
  rw [← e3]
  rfl

/-- A box, so many turns of it. -/
def turns (b : Nat) : Nat → Nat
  | 0 => b ^^^ 99
  | k + 1 => turns b k ^^^ rot b (k + 4)
theorem turns_lt {b : Nat} (h : b < 256) (k : Nat) : turns b k < 256 := by
  induction k with
  | zero => exact xor_lt8 h (by omega)
  | succ k ih => exact xor_lt8 ih (rot_lt _ h)

set_option maxRecDepth 100000 in
set_option maxHeartbeats 1000000 in
theorem boxOf_any (b : Nat) (w : World) (hb : (b : Int) < 256) :
    Calls Tryz.prog 83 #[.int .u8 (b : Int)] w fun e w' => e = .returned (.int .u8 (boxI b : Nat)) ∧ w = w' := by
  have h99 := u8_xor_nat b 99 (by omega) (by omega)
  have HT : Hid (turns b 0 = b ^^^ 99) := Lib.hid rfl
  have HX : Hid (turns b 4 = boxI b) := Lib.hid rfl
  have hlt : ((b ^^^ 99 : Nat) : Int) < 256 := by have := xor_lt8 (a := b) (b := 99) (by omega) (by omega); omega
  obtain ⟨q, hq⟩ : ∃ q, b ^^^ 99 = q := ⟨_, rfl⟩
  rw [hq] at h99 hlt HT
  have h99' : bits .xor .u8 (b : Int) 99 = (q : Int) := h99
  clear hq h99
  go_enter Tryz.func83, Tryz.ntmps83
  go_wp2_with fail
  go_loop [3, 4] (fun ov iv => ∃ k o : Nat, k ≤ 4 ∧ ov = .int .u8 (o : Int) ∧ iv = .int .i64 ((k + 4 : Nat) : Int) ∧ (o : Int) < 256 ∧ Hid (turns b k = o)) (fun _ iv => 8 - (intOf iv).toNat)
  case atStart => exact ⟨0, q, by omega, rfl, rfl, hlt, HT⟩
  case round =>
    clear HT h99' hlt
    obtain ⟨k, o, hk, rfl, rfl, ho, HK⟩ := hrel
    by_cases hlt : k < 4
    · have HR := Lib.hid (rot_any b (k + 4) w hb (by omega) (by omega))
      have hrl := rot_lt (b := b) (k + 4) (by omega)
      have hxor := u8_xor_nat o (rot b (k + 4)) (by omega) hrl
      have HS : Hid (turns b (k + 1) = o ^^^ rot b (k + 4)) := Lib.hid (by rw [turns, HK.out])
      have hol := xor_lt8 (a := o) (by omega) hrl
      obtain ⟨r, hr⟩ : ∃ r, rot b (k + 4) = r := ⟨_, rfl⟩
      rw [hr] at hxor HS hol HR
      obtain ⟨o2, ho2⟩ : ∃ r2, o ^^^ r = r2 := ⟨_, rfl⟩
      rw [ho2] at hxor HS hol
      have hol' : (o2 : Int) < 256 := by omega
      clear hr ho2 hrl hol
      obtain ⟨j, hj⟩ : ∃ j, k + 4 = j := ⟨_, rfl⟩
      rw [hj] at HR
      rw [hj]
      have hj1 : 4 ≤ j := by omega
      have hj2 : j < 8 := by omega
      have HJ := Lib.hid hj
      clear hj
      go_wp2_with fail
      refine HR.out.mono ?_
      rintro e w1 ⟨rfl, rfl⟩
      go_wp2_with fail
      exact ⟨⟨k + 1, o2, by omega, rfl, by have := HJ.out; rw [← this]; go_num, hol', HS⟩, by simp [intOf]; omega⟩
    · obtain rfl : k = 4 := by omega
      have HE : Hid (boxI b = o) := Lib.hid (by rw [← HX.out, HK.out])
      go_wp2_with fail
      go_ret
      rw [HE.out]
      exact ⟨rfl, rfl⟩

theorem boxI_lt {b : Nat} (h : b < 256) : boxI b < 256 := turns_lt h 4
end Go.Proofs.YtcecjoodlmpgnaaGreat
/- The contracts of the reference's Inv, Pow and Box. -/
namespace Go.Proofs.YtcecjoodlmpgnaaGreat
open Go.RowKit

set_option maxRecDepth 100000 in
set_option maxHeartbeats 2000000 in
theorem rinv_any (a : Nat) (w : World) (ha : (a : Int) < 256) :
    Calls Tryz.prog 126 #[.int .u8 (a : Int)] w fun e w' => e = .returned (.int .u8 (inv a : Nat)) ∧ w = w' := by
  go_enter Tryz.func126, Tryz.ntmps126
  go_wp2_with fail
  go_loop [3] (fun iv => ∃ k : Nat, 1 ≤ k ∧ k ≤ 256 ∧ iv = .int .i64 (k : Int) ∧ Hid (∀ j, 1 ≤ j → j < k → cm a j ≠ 1)) (fun iv => 256 - (intOf iv).toNat)
  case atStart => exact ⟨1, by omega, by omega, rfl, Lib.hid fun j h1 h2 => by omega⟩
  case round =>
    obtain ⟨k, hk0, hk, rfl, HJ⟩ := hrel
    by_cases hlt : k < 256
    · have HM := Lib.hid (rmul_any a k w ha (by omega))
      have hkm : (k : Int) % 256 = (k : Int) := by omega
      have HI : Hid (cm a k = 1 → inv a = k) := Lib.hid fun h => (inv_only (by omega) hlt h).symm
      have hcl := cm_lt (a := a) k (by omega)
      obtain ⟨c, hc⟩ : ∃ c, cm a k = c := ⟨_, rfl⟩
      rw [hc] at HM hcl HI
      by_cases h1 : c = 1
      · have HE : Hid (inv a = k) := Lib.hid (HI.out h1)
        subst h1
        clear hc HI
        go_wp2_with fail
        refine HM.out.mono ?_
        rintro e w1 ⟨rfl, rfl⟩
        go_wp2_with fail
        go_ret
        rw [HE.out]
        exact ⟨rfl, rfl⟩
      · have HE : Hid (∀ j, 1 ≤ j → j < k + 1 → cm a j ≠ 1) := Lib.hid fun j hj1 hj2 => by
          by_cases e : j = k
          · rw [e, hc]; exact h1
          · exact HJ.out j hj1 (by omega)
        have h1' : ((c : Int) == 1) = false := by simp; omega
        clear hc HI h1
        go_wp2_with fail
        refine HM.out.mono ?_
        rintro e w1 ⟨rfl, rfl⟩
        go_wp2_with fail
        exact ⟨⟨k + 1, by omega, by omega, by go_num, HE⟩, by simp [intOf]; omega⟩
    · obtain rfl : k = 256 := by omega
      have HE : Hid (inv a = 0) := Lib.hid (by
        by_cases h0 : a = 0
        · subst h0; exact inv_zero
        · exact absurd (cm_inv (by omega) h0) (HJ.out (inv a) (by have := inv_ne (by omega) h0; omega) (inv_lt (by omega))))
      go_wp2_with fail
      go_ret
      rw [HE.out]
      exact ⟨rfl, rfl⟩

set_option maxRecDepth 100000 in
set_option maxHeartbeats 2000000 in
theorem rpw_any (a : Nat) (n : Int) (w : World) (ha : (a : Int) < 256) (hn : n ≤ 9223372036854775807) :
    Calls Tryz.prog 125 #[.int .u8 (a : Int), .int .i64 n] w fun e w' => e = .returned (.int .u8 (pw a n.toNat : Nat)) ∧ w = w' := by
  obtain ⟨m, hm⟩ : ∃ m, n.toNat = m := ⟨_, rfl⟩
  rw [hm]
  have HM := Lib.hid hm
  clear hm
  go_enter Tryz.func125, Tryz.ntmps125
  go_wp2_with fail
  go_loop [5, 6] (fun ov iv => ∃ k o : Nat, k ≤ m ∧ ov = .int .u8 (o : Int) ∧ iv = .int .i64 (k : Int) ∧ (o : Int) < 256 ∧ Hid (pw a k = o)) (fun _ iv => m - (intOf iv).toNat)
  case atStart => exact ⟨0, 1, by omega, rfl, rfl, by omega, Lib.hid rfl⟩
  case round =>
    obtain ⟨k, o, hk, rfl, rfl, ho, HK⟩ := hrel
    by_cases hlt : k < m
    · have hkn : (k : Int) < n := by have := HM.out; omega
      have HS : Hid (pw a (k + 1) = cm o a) := Lib.hid (by rw [pw, HK.out])
      have hc := cm_lt (a := o) a (by omega)
      have hc' : ((cm o a : Nat) : Int) < 256 := by omega
      have HC := Lib.hid (rmul_any o a w ho ha)
      clear hc
      go_wp2_with fail
      refine HC.out.mono ?_
      rintro e w1 ⟨rfl, rfl⟩
      go_wp2_with fail
      exact ⟨⟨k + 1, cm o a, by omega, rfl, by go_num, hc', HS⟩, by simp [intOf]; omega⟩
    · obtain rfl : k = m := by omega
      have hkn : ¬ (k : Int) < n := by have := HM.out; omega
      go_wp2_with fail
      go_ret
      rw [HK.out]
      exact ⟨rfl, rfl⟩

set_option maxRecDepth 100000 in
set_option maxHeartbeats 4000000 in
theorem rbox_any (a : Nat) (w : World) (ha : (a : Int) < 256) :
    Calls Tryz.prog 102 #[.int .u8 (a : Int)] w fun e w' => e = .returned (.int .u8 (box a : Nat)) ∧ w = w' := by
  have HC : Hid (rbox (inv a) 8 = box a) := Lib.hid (rbox_inv (by omega))
  have HI := Lib.hid (rinv_any a w ha)
  have hb := inv_lt (a := a) (by omega)
  obtain ⟨b, hbb⟩ : ∃ b, inv a = b := ⟨_, rfl⟩
  rw [hbb] at HC HI hb
  clear hbb
  go_enter Tryz.func102, Tryz.ntmps102
  go_wp2_with fail
  refine HI.out.mono ?_
  rintro e w1 ⟨rfl, rfl⟩
  go_wp2_with fail
  go_loop [4, 5] (fun ov iv => ∃ k o : Nat, k ≤ 8 ∧ ov = .int .i64 (o : Int) ∧ iv = .int .i64 (k : Int) ∧ o < 256 ∧ Hid (rbox b k = o)) (fun _ iv => 8 - (intOf iv).toNat)
  case atStart => exact ⟨0, 0, by omega, rfl, rfl, by omega, Lib.hid rfl⟩
  case round =>
    obtain ⟨k, o, hk, rfl, rfl, ho, HK⟩ := hrel
    by_cases hlt : k < 8
    · have HS : Hid (rbox b (k + 1) = o + sumB b k % 2 * 2 ^ k) := Lib.hid (by rw [rbox, HK.out])
      have hlt2 := rbox_lt b (k + 1)
      have hp2 : 2 ^ (k + 1) ≤ 2 ^ 8 := Nat.pow_le_pow_right (by omega) (by omega)
      rw [HS.out] at hlt2
      have HP := Lib.hid (rpow_any k w (by omega))
      obtain ⟨p, hp⟩ : ∃ p, 2 ^ k = p := ⟨_, rfl⟩
      rw [hp] at HP HS hlt2
      unfold sumB at HS hlt2
      obtain ⟨i4, h4⟩ : ∃ i, (k + 4) % 8 = i := ⟨_, rfl⟩
      obtain ⟨i5, h5⟩ : ∃ i, (k + 5) % 8 = i := ⟨_, rfl⟩
      obtain ⟨i6, h6⟩ : ∃ i, (k + 6) % 8 = i := ⟨_, rfl⟩
      obtain ⟨i7, h7⟩ : ∃ i, (k + 7) % 8 = i := ⟨_, rfl⟩
      rw [h4, h5, h6, h7] at HS hlt2
      have B0 := Lib.hid (rbit_any b k w (by omega) (by omega))
      have B4 := Lib.hid (rbit_any b i4 w (by omega) (by omega))
      have B5 := Lib.hid (rbit_any b i5 w (by omega) (by omega))
      have B6 := Lib.hid (rbit_any b i6 w (by omega) (by omega))
      have B7 := Lib.hid (rbit_any b i7 w (by omega) (by omega))
      have B9 := Lib.hid (rbit_any 99 k w (by omega) (by omega))
      obtain ⟨r0, q0⟩ : ∃ r, b / 2 ^ k % 2 = r := ⟨_, rfl⟩
      obtain ⟨r4, q4⟩ : ∃ r, b / 2 ^ i4 % 2 = r := ⟨_, rfl⟩
      obtain ⟨r5, q5⟩ : ∃ r, b / 2 ^ i5 % 2 = r := ⟨_, rfl⟩
      obtain ⟨r6, q6⟩ : ∃ r, b / 2 ^ i6 % 2 = r := ⟨_, rfl⟩
      obtain ⟨r7, q7⟩ : ∃ r, b / 2 ^ i7 % 2 = r := ⟨_, rfl⟩
      obtain ⟨r9, q9⟩ : ∃ r, 99 / 2 ^ k % 2 = r := ⟨_, rfl⟩
      have l0 : r0 ≤ 1 := by omega
      have l4 : r4 ≤ 1 := by omega
      have l5 : r5 ≤ 1 := by omega
      have l6 : r6 ≤ 1 := by omega
      have l7 : r7 ≤ 1 := by omega
      have l9 : r9 ≤ 1 := by omega
      rw [hp] at q0 q9 B0 B9
      rw [q0] at B0
      rw [q4] at B4
      rw [q5] at B5
      rw [q6] at B6
      rw [q7] at B7
      rw [q9] at B9
      rw [hp, q0, q4, q5, q6, q7, q9] at HS hlt2
      have e4 : ((k : Int) + 4) % 8 = (i4 : Int) := by omega
      have e5 : ((k : Int) + 5) % 8 = (i5 : Int) := by omega
      have e6 : ((k : Int) + 6) % 8 = (i6 : Int) := by omega
      have e7 : ((k : Int) + 7) % 8 = (i7 : Int) := by omega
      obtain ⟨s, hs⟩ : ∃ s, (r0 + r4 + r5 + r6 + r7 + r9) % 2 = s := ⟨_, rfl⟩
      have es : ((r0 : Int) + (r4 : Int) + (r5 : Int) + (r6 : Int) + (r7 : Int) + (r9 : Int)) % 2 = (s : Int) := by omega
      rw [hs] at HS hlt2
      have hsp : s * p ≤ 1 * 256 := Nat.mul_le_mul (by omega) (by rw [← hp]; exact Nat.le_trans (Nat.pow_le_pow_right (by omega) (Nat.le_succ k)) hp2)
      have hmul : IntKind.i64.wrap ((s : Int) * (p : Int)) = ((s * p : Nat) : Int) := by rw [← Int.natCast_mul, IntKind.wrap_i64]; omega
      obtain ⟨m, hm⟩ : ∃ m, s * p = m := ⟨_, rfl⟩
      rw [hm] at HS hlt2 hmul hsp
      have hom : o + m < 256 := by omega
      clear hp h4 h5 h6 h7 q0 q4 q5 q6 q7 q9 hs hlt2 hp2 hm
      go_wp2_with fail
      refine B0.out.mono ?_
      rintro e w1 ⟨rfl, rfl⟩
      go_wp2_with fail
      refine B4.out.mono ?_
      rintro e w1 ⟨rfl, rfl⟩
      go_wp2_with fail
      refine B5.out.mono ?_
      rintro e w1 ⟨rfl, rfl⟩
      go_wp2_with fail
      refine B6.out.mono ?_
      rintro e w1 ⟨rfl, rfl⟩
      go_wp2_with fail
      refine B7.out.mono ?_
      rintro e w1 ⟨rfl, rfl⟩
      go_wp2_with fail
      refine B9.out.mono ?_
      rintro e w1 ⟨rfl, rfl⟩
      go_wp2_with fail
      refine HP.out.mono ?_
      rintro e w1 ⟨rfl, rfl⟩
      go_wp2_with fail
      exact ⟨⟨k + 1, o + m, by omega, by go_num, by go_num, hom, HS⟩, by simp [intOf]; omega⟩
    · obtain rfl : k = 8 := by omega
      have HE : Hid (box a = o) := Lib.hid (by rw [← HC.out, HK.out])
      have ho' : (o : Int) % 256 = (o : Int) := by omega
      go_wp2_with fail
      go_ret
      rw [HE.out]
      exact ⟨by first | rfl | simp, rfl⟩
end Go.Proofs.YtcecjoodlmpgnaaGreat
/- The powers of 3, and of its inverse: the tables; the boxes, so many of them set. -/
namespace Go.Proofs.YtcecjoodlmpgnaaGreat
def powT : List Nat := [1, 3, 5, 15, 17, 51, 85, 255, 26, 46, 114, 150, 161, 248, 19, 53, 95, 225, 56, 72, 216, 115, 149, 164, 247, 2, 6, 10, 30, 34, 102, 170, 229, 52, 92, 228, 55, 89, 235, 38, 106, 190, 217, 112, 144, 171, 230, 49, 83, 245, 4, 12, 20, 60, 68, 204, 79, 209, 104, 184, 211, 110, 178, 205, 76, 212, 103, 169, 224, 59, 77, 215, 98, 166, 241, 8, 24, 40, 120, 136, 131, 158, 185, 208, 107, 189, 220, 127, 129, 152, 179, 206, 73, 219, 118, 154, 181, 196, 87, 249, 16, 48, 80, 240, 11, 29, 39, 105, 187, 214, 97, 163, 254, 25, 43, 125, 135, 146, 173, 236, 47, 113, 147, 174, 233, 32, 96, 160, 251, 22, 58, 78, 210, 109, 183, 194, 93, 231, 50, 86, 250, 21, 63, 65, 195, 94, 226, 61, 71, 201, 64, 192, 91, 237, 44, 116, 156, 191, 218, 117, 159, 186, 213, 100, 172, 239, 42, 126, 130, 157, 188, 223, 122, 142, 137, 128, 155, 182, 193, 88, 232, 35, 101, 175, 234, 37, 111, 177, 200, 67, 197, 84, 252, 31, 33, 99, 165, 244, 7, 9, 27, 45, 119, 153, 176, 203, 70, 202, 69, 207, 74, 222, 121, 139, 134, 145, 168, 227, 62, 66, 198, 81, 243, 14, 18, 54, 90, 238, 41, 123, 141, 140, 143, 138, 133, 148, 167, 242, 13, 23, 57, 75, 221, 124, 132, 151, 162, 253, 28, 36, 108, 180, 199, 82, 246, 1]
def ipowT : List Nat := [1, 246, 82, 199, 180, 108, 36, 28, 253, 162, 151, 132, 124, 221, 75, 57, 23, 13, 242, 167, 148, 133, 138, 143, 140, 141, 123, 41, 238, 90, 54, 18, 14, 243, 81, 198, 66, 62, 227, 168, 145, 134, 139, 121, 222, 74, 207, 69, 202, 70, 203, 176, 153, 119, 45, 27, 9, 7, 244, 165, 99, 33, 31, 252, 84, 197, 67, 200, 177, 111, 37, 234, 175, 101, 35, 232, 88, 193, 182, 155, 128, 137, 142, 122, 223, 188, 157, 130, 126, 42, 239, 172, 100, 213, 186, 159, 117, 218, 191, 156, 116, 44, 237, 91, 192, 64, 201, 71, 61, 226, 94, 195, 65, 63, 21, 250, 86, 50, 231, 93, 194, 183, 109, 210, 78, 58, 22, 251, 160, 96, 32, 233, 174, 147, 113, 47, 236, 173, 146, 135, 125, 43, 25, 254, 163, 97, 214, 187, 105, 39, 29, 11, 240, 80, 48, 16, 249, 87, 196, 181, 154, 118, 219, 73, 206, 179, 152, 129, 127, 220, 189, 107, 208, 185, 158, 131, 136, 120, 40, 24, 8, 241, 166, 98, 215, 77, 59, 224, 169, 103, 212, 76, 205, 178, 110, 211, 184, 104, 209, 79, 204, 68, 60, 20, 12, 4, 245, 83, 49, 230, 171, 144, 112, 217, 190, 106, 38, 235, 89, 55, 228, 92, 52, 229, 170, 102, 34, 30, 10, 6, 2, 247, 164, 149, 115, 216, 72, 56, 225, 95, 53, 19, 248, 161, 150, 114, 46, 26, 255, 85, 51, 17, 15, 5, 3, 1]
def P3 (k : Nat) : Nat := powT.getD k 0
def I3 (k : Nat) : Nat := ipowT.getD k 0
theorem pow_all : ∀ k, k < 255 → cm (P3 k) 3 = P3 (k + 1) ∧ cm (I3 k) 246 = I3 (k + 1) ∧ boxI (I3 k) = box (P3 k) ∧ P3 k < 256 ∧ I3 k < 256 ∧ P3 k ≠ 0 ∧ powT.idxOf (P3 k) = k := by decide +kernel
theorem pow_lt (k : Nat) (h : k < 256) : P3 k < 256 ∧ I3 k < 256 := by
  have key : ∀ k, k < 256 → P3 k < 256 ∧ I3 k < 256 := by decide +kernel
  exact key k h
theorem idx_all : ∀ x, x < 256 → x = 0 ∨ (powT.idxOf x < 255 ∧ P3 (powT.idxOf x) = x) := by decide +kernel
theorem inv3 : inv 3 = 246 := by decide +kernel

/-- A byte's cell. -/
def bv (x : Nat) : Value := .int .u8 (x : Int)
/-- The box at a place, if it is set. -/
def boxAt (k x : Nat) : Nat := if x = 0 ∨ powT.idxOf x < k then box x else 0
def boxRow (k : Nat) : Array Value := ((List.range 256).map fun x => bv (boxAt k x)).toArray
theorem boxRow_size (k : Nat) : (boxRow k).size = 256 := by simp [boxRow]
theorem boxRow_at (k x : Nat) (h : x < 256) : (boxRow k)[x]? = some (bv (boxAt k x)) := by simp [boxRow, h]
theorem boxRow_set (k : Nat) (h : k < 255) : (boxRow k).setIfInBounds (P3 k) (bv (box (P3 k))) = boxRow (k + 1) := by
  obtain ⟨-, -, -, hlt, -, h0, hix⟩ := pow_all k h
  apply Array.ext
  · rw [Array.size_setIfInBounds, boxRow_size, boxRow_size]
  · intro x h1 h2
    have hx : x < 256 := by rw [boxRow_size] at h2; exact h2
    rw [Array.getElem_setIfInBounds (by rw [boxRow_size]; exact hx)]
    have e1 : (boxRow (k + 1))[x]'h2 = bv (boxAt (k + 1) x) := by have := boxRow_at (k + 1) x hx; rw [Array.getElem?_eq_getElem h2] at this; exact Option.some.inj this
    have h1' : x < (boxRow k).size := by rw [boxRow_size]; exact hx
    have e0 : (boxRow k)[x]'h1' = bv (boxAt k x) := by have := boxRow_at k x hx; rw [Array.getElem?_eq_getElem h1'] at this; exact Option.some.inj this
    rw [e1, e0]
    by_cases e : P3 k = x
    · rw [if_pos e, ← e, boxAt, if_pos (Or.inr (by omega))]
    · rw [if_neg e]
      have : boxAt k x = boxAt (k + 1) x := by
        unfold boxAt
        by_cases hz : x = 0
        · rw [if_pos (Or.inl hz), if_pos (Or.inl hz)]
        · have hne : powT.idxOf x ≠ k := by
            intro hk
            rcases idx_all x hx with h' | h'
            · exact hz h'
            · rw [hk] at h'; exact e h'.2
          by_cases hl : powT.idxOf x < k
          · rw [if_pos (Or.inr hl), if_pos (Or.inr (by omega))]
          · rw [if_neg (by omega), if_neg (by omega)]
      rw [this]
theorem boxRow_all : boxRow 255 = (boxT.map bv).toArray := by
  have h : ∀ x, x < 256 → boxAt 255 x = box x := fun x hx => by
    unfold boxAt
    rcases idx_all x hx with h' | h'
    · rw [if_pos (Or.inl h')]
    · rw [if_pos (Or.inr h'.1)]
  have e : (List.range 256).map (fun x => bv (boxAt 255 x)) = (List.range 256).map (fun x => bv (box x)) := List.map_congr_left fun x hx => by rw [h x (List.mem_range.1 hx)]
  have e2 : (List.range 256).map box = boxT := by decide +kernel
  unfold boxRow
  rw [e, ← e2, List.map_map]
  rfl
theorem boxRow_zero : boxRow 0 = ((List.replicate 256 0).map bv).toArray.setIfInBounds 0 (bv 99) := by
  have e : (List.range 256).map (boxAt 0) = (List.replicate 256 0).set 0 99 := by decide +kernel
  unfold boxRow
  rw [show (List.range 256).map (fun x => bv (boxAt 0 x)) = ((List.range 256).map (boxAt 0)).map bv by rw [List.map_map]; rfl, e]
  rw [List.setIfInBounds_toArray, List.map_set]
end Go.Proofs.YtcecjoodlmpgnaaGreat
/- The contract of Boxes. -/
namespace Go.Proofs.YtcecjoodlmpgnaaGreat
open Go.RowKit

theorem info5 : (Tryz.prog.info? 5).map (fun i => (i.zero, i.size, i.bytes)) = some (some (.int .u8 0), 1, 1) := by kernel_rfl
def zeroRow : Array Value := ((List.replicate 256 0).map bv).toArray
theorem zeroRow_size : zeroRow.size = 256 := by simp [zeroRow, -List.reduceReplicate]
theorem zeroRow_at : zeroRow[0]? = some (bv 0) := by kernel_rfl
theorem made_zero : madeCells (Value.int .u8 0).cells (256 * 1) = zeroRow := by
  apply Array.ext
  · rw [size_madeCells, zeroRow_size]
  · intro i h1 h2
    simp [madeCells, zeroRow, Value.cells, bv, Nat.mod_one, -List.reduceReplicate]
theorem make256 (W : World) : (Instr.makeSlice 64 (.int .i64 256) (.int .i64 256)).run Tryz.prog W = .ok (.slice (some ⟨W.heap.size, 0, none⟩) 256 256) (W.alloc (.cells zeroRow 5)) := by
  obtain ⟨i0, hi, hz0, hz1, hz2⟩ := info_parts info5
  have h := run_makeSlice (P := Tryz.prog) W 64 5 i0 (.int .u8 0) Tryz.underlying64 hi hz0 .i64 .i64 256 256 (by omega) (by omega) (by rw [hz1]; decide) (by rw [hz2]; decide) (by omega)
  rw [hz1] at h
  have e2 : ((256 : Int).toNat * 1) = 256 * 1 := rfl
  rw [e2, made_zero] at h
  exact h

set_option maxRecDepth 100000 in
set_option maxHeartbeats 4000000 in
theorem boxes_any (w : World) :
    Calls Tryz.prog 56 #[] w fun e w' => ∃ g, e = .returned (.slice (some ⟨g, 0, none⟩) 256 256) ∧ w.heap.size ≤ g ∧ Blk w' g 5 (boxT.map bv).toArray ∧ Below w.heap.size w w' := by
  have hmk := make256 w
  have HZ := Lib.hid zeroRow_at
  have HS : Hid (zeroRow.setIfInBounds 0 (bv 99) = boxRow 0) := Lib.hid boxRow_zero.symm
  have HA := Lib.hid boxRow_all
  have B0 : Hid (boxI 0 = 99) := Lib.hid (by decide +kernel)
  obtain ⟨Z, hZ⟩ : ∃ Z, zeroRow = Z := ⟨_, rfl⟩
  rw [hZ] at hmk HZ HS
  clear hZ
  go_enter Tryz.func56, Tryz.ntmps56
  go_wp2_with fail
  refine (boxOf_any 0 _ (by omega)).mono ?_
  rw [B0.out]
  rintro e w1 ⟨rfl, rfl⟩
  have hB := Blk.new w 5 Z
  have hb : Below w.heap.size w (w.alloc (.cells Z 5)) := ba (Below.refl _ _) _
  generalize w.alloc (.cells Z 5) = w1 at hB hb
  have hc := (hB.cell 0).trans HZ.out
  have hf := hB.frozen 0
  have HB := Lib.hid hB
  clear hB
  go_wp2_with fail
  have HB2 := Lib.hid (HB.out.set_ 0 (bv 99))
  have hb2 := bs hb (Nat.le_refl _) (bv 99) (o := 0)
  rw [HS.out] at HB2
  clear hc hf HB hb hmk
  have e1 : w1.setCell ⟨w.heap.size, 0, none⟩ (.int .u8 99) = w1.setCell ⟨w.heap.size, 0, none⟩ (bv 99) := rfl
  rw [e1]
  generalize w1.setCell ⟨w.heap.size, 0, none⟩ (bv 99) = w2 at HB2 hb2
  clear e1 w1
  have HI : Hid (inv 3 = 246) := Lib.hid inv3
  refine (inv_any 3 _ (by omega)).mono ?_
  rw [HI.out]
  rintro e w3 ⟨rfl, rfl⟩
  go_wp2_with fail
  go_loopw [2, 3, 10] (fun pv iv kv wr => ∃ k p i : Nat, k ≤ 255 ∧ pv = .int .u8 (p : Int) ∧ iv = .int .u8 (i : Int) ∧ kv = .int .i64 (k : Int) ∧ Hid (P3 k = p) ∧ Hid (I3 k = i) ∧ Blk wr w.heap.size 5 (boxRow k) ∧ Below w.heap.size w wr) (fun _ _ kv _ => 255 - (intOf kv).toNat)
  case atStart => exact ⟨0, 1, 1, by omega, rfl, rfl, rfl, Lib.hid rfl, Lib.hid rfl, HB2.out, hb2⟩
  case round =>
    clear HB2 hb2
    obtain ⟨k, p, i, hk, rfl, rfl, rfl, HP, HI, hB, hb⟩ := hrel
    by_cases hlt : k < 255
    · obtain ⟨a1, a2, a3, a4, a5, -, -⟩ := pow_all k hlt
      have hset := boxRow_set k hlt
      have hold := boxRow_at k (P3 k) a4
      rw [HP.out] at a1 a3 a4 hset hold
      rw [HI.out] at a2 a3 a5
      have hc := (hB.cell p).trans hold
      have hf := hB.frozen p
      have HO := Lib.hid (boxOf_any i wr (by omega))
      rw [a3] at HO
      have HB := Lib.hid hB
      have HS2 := Lib.hid hset
      have H1 := Lib.hid a1.symm
      have H2 := Lib.hid a2.symm
      clear hB hold hset a1 a2 a3
      obtain ⟨x, hx⟩ : ∃ x, box p = x := ⟨_, rfl⟩
      rw [hx] at HO HS2
      clear hx
      go_wp2_with fail
      refine HO.out.mono ?_
      rintro e w1 ⟨rfl, rfl⟩
      go_wp2_with fail
      have HB2 := Lib.hid (HB.out.set_ p (bv x))
      have hb2 := bs hb (Nat.le_refl _) (bv x) (o := p)
      rw [HS2.out] at HB2
      clear hc hf HB hb
      have e1 : wr.setCell ⟨w.heap.size, p, none⟩ (.int .u8 (x : Int)) = wr.setCell ⟨w.heap.size, p, none⟩ (bv x) := rfl
      rw [e1]
      generalize wr.setCell ⟨w.heap.size, p, none⟩ (bv x) = w2 at HB2 hb2
      clear e1 HO HS2
      have HM1 := Lib.hid (mul_any p 3 w2 (by omega) (by omega))
      have HM2 := Lib.hid (mul_any i 246 w2 (by omega) (by omega))
      rw [← H1.out] at HM1
      rw [← H2.out] at HM2
      obtain ⟨p2, hp2⟩ : ∃ p2, P3 (k + 1) = p2 := ⟨_, rfl⟩
      obtain ⟨i2, hi2⟩ : ∃ i2, I3 (k + 1) = i2 := ⟨_, rfl⟩
      rw [hp2] at HM1
      rw [hi2] at HM2
      have HP2 := Lib.hid hp2
      have HI2 := Lib.hid hi2
      clear hp2 hi2 H1 H2
      refine HM1.out.mono ?_
      rintro e w3 ⟨rfl, rfl⟩
      go_wp2_with fail
      refine HM2.out.mono ?_
      rintro e w3 ⟨rfl, rfl⟩
      go_wp2_with fail
      go_roundw
      case rel => exact ⟨k + 1, p2, i2, by omega, rfl, rfl, by go_num, HP2, HI2, HB2.out, hb2⟩
      case measure => simp [intOf]; omega
    · obtain rfl : k = 255 := by omega
      rw [HA.out] at hB
      have HB := Lib.hid hB
      clear hB
      go_wp2_with fail
      go_ret
      exact ⟨_, rfl, Nat.le_refl _, HB.out, hb⟩
end Go.Proofs.YtcecjoodlmpgnaaGreat
