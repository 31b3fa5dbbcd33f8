/- The contract of the reference's Mul: the product. -/
import Derived.Test.YtlfghagidajpeaaGRProd
import Derived.Test.YtlfghagidajpeaaGMul
namespace Go.Proofs.Ytlfghagidajpeaa
open Go.RowKit

theorem step_no (f : Nat → Bool) (p : Nat) (h : f p = false) : stepF f p = f := by simp [stepF, h]
theorem step_yes (f : Nat → Bool) (p : Nat) (h : f p = true) : stepF f p = flipF (flipF (flipF (flipF f (p - 128)) (p - 127)) (p - 126)) (p - 121) := by simp [stepF, h]

theorem BR.at_ {w : World} {g n : Nat} {f : Nat → Bool} (h : BR w (some ⟨g, 0, none⟩) n f) {j : Nat} (hj : j < n) : w.cell? ⟨g, j, none⟩ = some (lv (f j)) := by
  obtain ⟨g', e, h⟩ := h
  cases e
  exact h j hj

set_option maxRecDepth 100000 in
set_option maxHeartbeats 8000000 in
theorem rMul_any (a b : List UInt8) (w : World) (ha : a.length = 16) (hb : b.length = 16) :
    Calls Try.prog 10 #[.string ⟨a.toArray⟩, .string ⟨b.toArray⟩] w fun e w' => e = .returned (.string ⟨(mulL a b).toArray⟩) ∧ Below w.heap.size w w' := by
  have HP := Lib.hid (fun W => product_any a b W ha hb)
  have HE : Hid (nb (mkN 128 (down (lon (bn a) (bn b)) 127)) = mulL a b) := Lib.hid (by rw [down_is (bn_lt a) (bn_lt b)]; rfl)
  generalize mulL a b = E at HE ⊢
  generalize lon (bn a) (bn b) = f at HP HE
  have HD0 : Hid (down f 0 = f) := Lib.hid rfl
  have HDS : Hid (∀ j, down f (j + 1) = stepF (down f j) (254 - j)) := Lib.hid (fun _ => rfl)
  generalize down f = D at HD0 HDS HE
  have HFL := Lib.hid (fun A c i f W (hi : i < 255) h => flip_any A c 254 i f W (by omega) hi h)
  have HBY := Lib.hid (fun A c f W h => bytes_any A c f W h)
  clear ha hb
  go_enter Try.func10, Try.ntmps10
  go_wp2_with fail
  refine (HP.out _).mono ?_
  rintro e w0 ⟨g0, c0, rfl, hr0, hc0, hb0⟩
  have HR0 := Lib.hid hr0
  have HC0 := Lib.hid hc0
  clear hr0 hc0
  go_wp2_with fail
  go_loopw [5, 6] (fun lv pv wr => ∃ j p g c : Nat, Hid (j + p = 254) ∧ Hid (j ≤ 127) ∧ pv = .int .i64 p ∧ lv = .slice (some ⟨g, 0, none⟩) 255 c ∧ Hid (BR wr (some ⟨g, 0, none⟩) 255 (D j)) ∧ Hid (255 ≤ c) ∧ Below w.heap.size w wr) (fun _ pv _ => (intOf pv).toNat)
  case atStart => exact ⟨0, 254, g0, c0, Lib.hid rfl, Lib.hid (by omega), rfl, rfl, Lib.hid (by rw [HD0.out]; exact HR0.out), HC0, hb0⟩
  case round =>
    clear HR0 HC0 hb0
    obtain ⟨j, p, g, c, HJ, HJL, rfl, rfl, HR, HC, hb⟩ := hrel
    by_cases hlt : 128 ≤ p
    · have hpl : (128 : Int) ≤ (p : Int) := by omega
      have hp255 : (p : Int) < 255 := by have := HJ.out; omega
      have hp255' : p < 255 := by omega
      have hcell := HR.out.at_ hp255'
      have HDJ := Lib.hid (HDS.out j)
      have hpj : 254 - j = p := by have := HJ.out; omega
      rw [hpj] at HDJ
      have HJ2 : Hid (j + 1 + (p - 1) = 254) := Lib.hid (by have := HJ.out; omega)
      have HJL2 : Hid (j + 1 ≤ 127) := Lib.hid (by have := HJ.out; omega)
      have hpm : (p : Int) - 1 = ((p - 1 : Nat) : Int) := by omega
      cases hf : D j p
      · rw [hf] at hcell
        have HS := Lib.hid (HDJ.out.trans (step_no (D j) p hf))
        clear hpj hf
        go_wp2_with fail
        exact ⟨⟨j + 1, p - 1, g, c, HJ2, HJL2, by rw [← hpm], rfl, by rw [HS.out]; exact HR, HC, hb⟩, by simp [intOf]; omega⟩
      · rw [hf] at hcell
        have HS := Lib.hid (HDJ.out.trans (step_yes (D j) p hf))
        obtain ⟨q1, hq1⟩ : ∃ q, p - 128 = q := ⟨_, rfl⟩
        obtain ⟨q2, hq2⟩ : ∃ q, p - 127 = q := ⟨_, rfl⟩
        obtain ⟨q3, hq3⟩ : ∃ q, p - 126 = q := ⟨_, rfl⟩
        obtain ⟨q4, hq4⟩ : ∃ q, p - 121 = q := ⟨_, rfl⟩
        rw [hq1, hq2, hq3, hq4] at HS
        have e1 : (p : Int) - 128 = (q1 : Int) := by omega
        have e2 : (p : Int) - 127 = (q2 : Int) := by omega
        have e3 : (p : Int) - 126 = (q3 : Int) := by omega
        have e4 : (p : Int) - 121 = (q4 : Int) := by omega
        have l1 : q1 < 255 := by omega
        have l2 : q2 < 255 := by omega
        have l3 : q3 < 255 := by omega
        have l4 : q4 < 255 := by omega
        clear hpj hf hq1 hq2 hq3 hq4
        go_wp2_with fail
        refine (HFL.out _ c q1 _ _ l1 HR.out).mono ?_
        rintro e x1 ⟨g1, c1, rfl, hr1, _, hb1⟩
        have HR1 := Lib.hid hr1
        have hB1 := bt hb hb1
        clear hr1 hb1
        go_wp2_with fail
        refine (HFL.out _ c1 q2 _ _ l2 HR1.out).mono ?_
        rintro e x2 ⟨g2, c2, rfl, hr2, _, hb2⟩
        have HR2 := Lib.hid hr2
        have hB2 := bt hB1 hb2
        clear hr2 hb2 HR1 hB1
        go_wp2_with fail
        refine (HFL.out _ c2 q3 _ _ l3 HR2.out).mono ?_
        rintro e x3 ⟨g3, c3, rfl, hr3, _, hb3⟩
        have HR3 := Lib.hid hr3
        have hB3 := bt hB2 hb3
        clear hr3 hb3 HR2 hB2
        go_wp2_with fail
        refine (HFL.out _ c3 q4 _ _ l4 HR3.out).mono ?_
        rintro e x4 ⟨g4, c4, rfl, hr4, hc4, hb4⟩
        have HR4 := Lib.hid hr4
        have HC4 := Lib.hid hc4
        have hB4 := bt hB3 hb4
        clear hr4 hb4 HR3 hB3 hc4
        go_wp2_with fail
        exact ⟨⟨j + 1, p - 1, g4, c4, HJ2, HJL2, by rw [← hpm], rfl, by rw [HS.out]; exact HR4, HC4, hB4⟩, by simp [intOf]; omega⟩
    · have hpl : ¬ (128 : Int) ≤ (p : Int) := by omega
      have hj : j = 127 := by have h1 := HJ.out; have h2 := HJL.out; omega
      rw [hj] at HR
      have HB := Lib.hid (fun W h => HBY.out (some ⟨g, 0, none⟩) c (D 127) W h)
      rw [HE.out] at HB
      have HRL := Lib.hid (HR.out.less (m := 128) (by omega))
      have hc := HC.out
      clear hj hlt
      go_wp2_with fail
      refine (HB.out _ HRL.out).mono ?_
      rintro e x1 ⟨rfl, hb1⟩
      go_wp2_with fail
      go_ret
      exact ⟨rfl, bt hb hb1⟩
end Go.Proofs.Ytlfghagidajpeaa
