/- The contracts of the reference's Inv, Pow and Box. -/
import Derived.Test.YtodolffolbkaaaaFRefB
import Derived.Test.YtodolffolbkaaaaFBox
namespace Go.Proofs.Ytodolffolbkaaaa
open Go.RowKit

set_option maxRecDepth 100000 in
set_option maxHeartbeats 2000000 in
theorem rinv_any (a : Nat) (w : World) (ha : (a : Int) < 256) :
    Calls Try.prog 47 #[.int .u8 (a : Int)] w fun e w' => e = .returned (.int .u8 (inv a : Nat)) ∧ w = w' := by
  go_enter Try.func47, Try.ntmps47
  go_wp2_with fail
  go_loop [3] (fun iv => ∃ k : Nat, 1 ≤ k ∧ k ≤ 256 ∧ iv = .int .i64 (k : Int) ∧ Hid (∀ j, 1 ≤ j → j < k → cm a j ≠ 1)) (fun iv => 256 - (intOf iv).toNat)
  case atStart => exact ⟨1, by omega, by omega, rfl, Lib.hid fun j h1 h2 => by omega⟩
  case round =>
    obtain ⟨k, hk0, hk, rfl, HJ⟩ := hrel
    by_cases hlt : k < 256
    · have HM := Lib.hid (rmul_any a k w ha (by omega))
      have hkm : (k : Int) % 256 = (k : Int) := by omega
      have HI : Hid (cm a k = 1 → inv a = k) := Lib.hid fun h => (inv_only (by omega) hlt h).symm
      have hcl := cm_lt (a := a) k (by omega)
      obtain ⟨c, hc⟩ : ∃ c, cm a k = c := ⟨_, rfl⟩
      rw [hc] at HM hcl HI
      by_cases h1 : c = 1
      · have HE : Hid (inv a = k) := Lib.hid (HI.out h1)
        subst h1
        clear hc HI
        go_wp2_with fail
        refine HM.out.mono ?_
        rintro e w1 ⟨rfl, rfl⟩
        go_wp2_with fail
        go_ret
        rw [HE.out]
        exact ⟨rfl, rfl⟩
      · have HE : Hid (∀ j, 1 ≤ j → j < k + 1 → cm a j ≠ 1) := Lib.hid fun j hj1 hj2 => by
          by_cases e : j = k
          · rw [e, hc]; exact h1
          · exact HJ.out j hj1 (by omega)
        have h1' : ((c : Int) == 1) = false := by simp; omega
        clear hc HI h1
        go_wp2_with fail
        refine HM.out.mono ?_
        rintro e w1 ⟨rfl, rfl⟩
        go_wp2_with fail
        exact ⟨⟨k + 1, by omega, by omega, by go_num, HE⟩, by simp [intOf]; omega⟩
    · obtain rfl : k = 256 := by omega
      have HE : Hid (inv a = 0) := Lib.hid (by
        by_cases h0 : a = 0
        · subst h0; exact inv_zero
        · exact absurd (cm_inv (by omega) h0) (HJ.out (inv a) (by have := inv_ne (by omega) h0; omega) (inv_lt (by omega))))
      go_wp2_with fail
      go_ret
      rw [HE.out]
      exact ⟨rfl, rfl⟩

set_option maxRecDepth 100000 in
set_option maxHeartbeats 2000000 in
theorem rpw_any (a : Nat) (n : Int) (w : World) (ha : (a : Int) < 256) (hn : n ≤ 9223372036854775807) :
    Calls Try.prog 44 #[.int .u8 (a : Int), .int .i64 n] w fun e w' => e = .returned (.int .u8 (pw a n.toNat : Nat)) ∧ w = w' := by
  obtain ⟨m, hm⟩ : ∃ m, n.toNat = m := ⟨_, rfl⟩
  rw [hm]
  have HM := Lib.hid hm
  clear hm
  go_enter Try.func44, Try.ntmps44
  go_wp2_with fail
  go_loop [5, 6] (fun ov iv => ∃ k o : Nat, k ≤ m ∧ ov = .int .u8 (o : Int) ∧ iv = .int .i64 (k : Int) ∧ (o : Int) < 256 ∧ Hid (pw a k = o)) (fun _ iv => m - (intOf iv).toNat)
  case atStart => exact ⟨0, 1, by omega, rfl, rfl, by omega, Lib.hid rfl⟩
  case round =>
    obtain ⟨k, o, hk, rfl, rfl, ho, HK⟩ := hrel
    by_cases hlt : k < m
    · have hkn : (k : Int) < n := by have := HM.out; omega
      have HS : Hid (pw a (k + 1) = cm o a) := Lib.hid (by rw [pw, HK.out])
      have hc := cm_lt (a := o) a (by omega)
      have hc' : ((cm o a : Nat) : Int) < 256 := by omega
      have HC := Lib.hid (rmul_any o a w ho ha)
      clear hc
      go_wp2_with fail
      refine HC.out.mono ?_
      rintro e w1 ⟨rfl, rfl⟩
      go_wp2_with fail
      exact ⟨⟨k + 1, cm o a, by omega, rfl, by go_num, hc', HS⟩, by simp [intOf]; omega⟩
    · obtain rfl : k = m := by omega
      have hkn : ¬ (k : Int) < n := by have := HM.out; omega
      go_wp2_with fail
      go_ret
      rw [HK.out]
      exact ⟨rfl, rfl⟩

set_option maxRecDepth 100000 in
set_option maxHeartbeats 4000000 in
theorem rbox_any (a : Nat) (w : World) (ha : (a : Int) < 256) :
    Calls Try.prog 32 #[.int .u8 (a : Int)] w fun e w' => e = .returned (.int .u8 (box a : Nat)) ∧ w = w' := by
  have HC : Hid (rbox (inv a) 8 = box a) := Lib.hid (rbox_inv (by omega))
  have HI := Lib.hid (rinv_any a w ha)
  have hb := inv_lt (a := a) (by omega)
  obtain ⟨b, hbb⟩ : ∃ b, inv a = b := ⟨_, rfl⟩
  rw [hbb] at HC HI hb
  clear hbb
  go_enter Try.func32, Try.ntmps32
  go_wp2_with fail
  refine HI.out.mono ?_
  rintro e w1 ⟨rfl, rfl⟩
  go_wp2_with fail
  go_loop [4, 5] (fun ov iv => ∃ k o : Nat, k ≤ 8 ∧ ov = .int .i64 (o : Int) ∧ iv = .int .i64 (k : Int) ∧ o < 256 ∧ Hid (rbox b k = o)) (fun _ iv => 8 - (intOf iv).toNat)
  case atStart => exact ⟨0, 0, by omega, rfl, rfl, by omega, Lib.hid rfl⟩
  case round =>
    obtain ⟨k, o, hk, rfl, rfl, ho, HK⟩ := hrel
    by_cases hlt : k < 8
    · have HS : Hid (rbox b (k + 1) = o + sumB b k % 2 * 2 ^ k) := Lib.hid (by rw [rbox, HK.out])
      have hlt2 := rbox_lt b (k + 1)
      have hp2 : 2 ^ (k + 1) ≤ 2 ^ 8 := Nat.pow_le_pow_right (by omega) (by omega)
      rw [HS.out] at hlt2
      have HP := Lib.hid (rpow_any k w (by omega))
      obtain ⟨p, hp⟩ : ∃ p, 2 ^ k = p := ⟨_, rfl⟩
      rw [hp] at HP HS hlt2
      unfold sumB at HS hlt2
      obtain ⟨i4, h4⟩ : ∃ i, (k + 4) % 8 = i := ⟨_, rfl⟩
      obtain ⟨i5, h5⟩ : ∃ i, (k + 5) % 8 = i := ⟨_, rfl⟩
      obtain ⟨i6, h6⟩ : ∃ i, (k + 6) % 8 = i := ⟨_, rfl⟩
      obtain ⟨i7, h7⟩ : ∃ i, (k + 7) % 8 = i := ⟨_, rfl⟩
      rw [h4, h5, h6, h7] at HS hlt2
      have B0 := Lib.hid (rbit_any b k w (by omega) (by omega))
      have B4 := Lib.hid (rbit_any b i4 w (by omega) (by omega))
      have B5 := Lib.hid (rbit_any b i5 w (by omega) (by omega))
      have B6 := Lib.hid (rbit_any b i6 w (by omega) (by omega))
      have B7 := Lib.hid (rbit_any b i7 w (by omega) (by omega))
      have B9 := Lib.hid (rbit_any 99 k w (by omega) (by omega))
      obtain ⟨r0, q0⟩ : ∃ r, b / 2 ^ k % 2 = r := ⟨_, rfl⟩
      obtain ⟨r4, q4⟩ : ∃ r, b / 2 ^ i4 % 2 = r := ⟨_, rfl⟩
      obtain ⟨r5, q5⟩ : ∃ r, b / 2 ^ i5 % 2 = r := ⟨_, rfl⟩
      obtain ⟨r6, q6⟩ : ∃ r, b / 2 ^ i6 % 2 = r := ⟨_, rfl⟩
      obtain ⟨r7, q7⟩ : ∃ r, b / 2 ^ i7 % 2 = r := ⟨_, rfl⟩
      obtain ⟨r9, q9⟩ : ∃ r, 99 / 2 ^ k % 2 = r := ⟨_, rfl⟩
      have l0 : r0 ≤ 1 := by omega
      have l4 : r4 ≤ 1 := by omega
      have l5 : r5 ≤ 1 := by omega
      have l6 : r6 ≤ 1 := by omega
      have l7 : r7 ≤ 1 := by omega
      have l9 : r9 ≤ 1 := by omega
      rw [hp] at q0 q9 B0 B9
      rw [q0] at B0
      rw [q4] at B4
      rw [q5] at B5
      rw [q6] at B6
      rw [q7] at B7
      rw [q9] at B9
      rw [hp, q0, q4, q5, q6, q7, q9] at HS hlt2
      have e4 : ((k : Int) + 4) % 8 = (i4 : Int) := by omega
      have e5 : ((k : Int) + 5) % 8 = (i5 : Int) := by omega
      have e6 : ((k : Int) + 6) % 8 = (i6 : Int) := by omega
      have e7 : ((k : Int) + 7) % 8 = (i7 : Int) := by omega
      obtain ⟨s, hs⟩ : ∃ s, (r0 + r4 + r5 + r6 + r7 + r9) % 2 = s := ⟨_, rfl⟩
      have es : ((r0 : Int) + (r4 : Int) + (r5 : Int) + (r6 : Int) + (r7 : Int) + (r9 : Int)) % 2 = (s : Int) := by omega
      rw [hs] at HS hlt2
      have hsp : s * p ≤ 1 * 256 := Nat.mul_le_mul (by omega) (by rw [← hp]; exact Nat.le_trans (Nat.pow_le_pow_right (by omega) (Nat.le_succ k)) hp2)
      have hmul : IntKind.i64.wrap ((s : Int) * (p : Int)) = ((s * p : Nat) : Int) := by rw [← Int.natCast_mul, IntKind.wrap_i64]; omega
      obtain ⟨m, hm⟩ : ∃ m, s * p = m := ⟨_, rfl⟩
      rw [hm] at HS hlt2 hmul hsp
      have hom : o + m < 256 := by omega
      clear hp h4 h5 h6 h7 q0 q4 q5 q6 q7 q9 hs hlt2 hp2 hm
      go_wp2_with fail
      refine B0.out.mono ?_
      rintro e w1 ⟨rfl, rfl⟩
      go_wp2_with fail
      refine B4.out.mono ?_
      rintro e w1 ⟨rfl, rfl⟩
      go_wp2_with fail
      refine B5.out.mono ?_
      rintro e w1 ⟨rfl, rfl⟩
      go_wp2_with fail
      refine B6.out.mono ?_
      rintro e w1 ⟨rfl, rfl⟩
      go_wp2_with fail
      refine B7.out.mono ?_
      rintro e w1 ⟨rfl, rfl⟩
      go_wp2_with fail
      refine B9.out.mono ?_
      rintro e w1 ⟨rfl, rfl⟩
      go_wp2_with fail
      refine HP.out.mono ?_
      rintro e w1 ⟨rfl, rfl⟩
      go_wp2_with fail
      exact ⟨⟨k + 1, o + m, by omega, by go_num, by go_num, hom, HS⟩, by simp [intOf]; omega⟩
    · obtain rfl : k = 8 := by omega
      have HE : Hid (box a = o) := Lib.hid (by rw [← HC.out, HK.out])
      have ho' : (o : Int) % 256 = (o : Int) := by omega
      go_wp2_with fail
      go_ret
      rw [HE.out]
      exact ⟨by first | rfl | simp, rfl⟩
end Go.Proofs.Ytodolffolbkaaaa
