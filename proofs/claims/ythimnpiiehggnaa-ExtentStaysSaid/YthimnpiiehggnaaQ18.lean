/- Texts of this seat, one behind the other: ELawS. -/
import Derived.Test.YthimnpiiehggnaaQ10
import Derived.Test.YthimnpiiehggnaaQ16
import Derived.Test.YthimnpiiehggnaaQ17
/- ExtentStays: the walk. -/
namespace Go.Proofs.Ythimnpiiehggnaa
open Go.RowKit

set_option maxRecDepth 100000 in
set_option maxHeartbeats 8000000 in
/-- The law behind few. -/
theorem estays_in (A : Option Addr) (N n c : Nat) (L : List Rn) (f nn s m : Int) (w : World) (hc : N ≤ c) (hn : min N 66 = n) (hl : L.length = n) (hA : ER w A L) (hu : ∀ r ∈ L, EU r) (hf : 0 ≤ f ∧ f ≤ 18446744073709551615) (hnn : 0 ≤ nn ∧ nn ≤ 18446744073709551615) (hm : 0 ≤ m ∧ m ≤ 18446744073709551615) :
    Calls Try.prog 6 #[.slice A N c, .agg #[.int .u64 f, .int .u64 nn], .int .i64 s, .int .u64 m] w fun e w' => e = .returned (.bool true) ∧ Below w.heap.size w w' := by
  have hn6 : n ≤ 66 := by omega
  have HF1 : Hid (∀ W, Below w.heap.size w W → Calls Try.prog 7 #[.slice A N c] W fun e w' => e = .returned (.slice A n c) ∧ Below W.heap.size W w') := Lib.hid fun W hb => (efew_any A N c W hc).mono fun e w' h => by rw [hn] at h; exact ⟨h.1, by rw [h.2]; exact Below.refl _ _⟩
  have HV : Hid (∀ W, Below w.heap.size w W → Calls Try.prog 14 #[] W fun e w' => e = .returned (.bool true) ∧ Below W.heap.size W w') := Lib.hid fun W hb => ealive_any W
  by_cases hrs : ERt L ∧ ESt s
  · obtain ⟨hr, hs⟩ := hrs
    by_cases hw : ewhy f nn = 0
    · obtain ⟨k1, k2⟩ := (ewhy_ok f nn hnn.1).1 hw
      have HP : Hid (∀ W, Below w.heap.size w W → Calls Try.prog 17 #[.slice A n c, .agg #[.int .u64 f, .int .u64 nn], .int .i64 s] W fun e w' => ∃ J, EPuts L f nn s J ∧ Below W.heap.size W w' ∧ ((64 < J.length ∧ e = .returned (.tuple #[.slice none 0 0, .int .i64 6])) ∨ (J.length ≤ 64 ∧ ∃ A' c', e = .returned (.tuple #[.slice A' J.length c', .int .i64 0]) ∧ J.length ≤ c' ∧ ER w' A' J))) := Lib.hid fun W hb => eput_yes A n c L f nn s W (hA.later hb) hl hu hr hs hf.1 k1 k2
      obtain ⟨x, HX⟩ : ∃ x, Hid (m % 576460752303423488 = x) := ⟨_, Lib.hid rfl⟩
      have hx : 0 ≤ x ∧ x < 576460752303423488 := by rw [← HX.out]; omega
      have HA1 : Hid (∀ W, Below w.heap.size w W → Calls Try.prog 9 #[.slice A n c, .int .u64 x] W fun e w' => e = .returned (.tuple #[.int .i64 (eAt L x), .int .i64 0]) ∧ Below W.heap.size W w') := Lib.hid fun W hb => eat_yes A n c L x W (hA.later hb) hl hu hr hx.2
      have HQ1 : Hid (∀ W, Below w.heap.size w W → Calls Try.prog 20 #[.slice A n c, .agg #[.int .u64 f, .int .u64 nn]] W fun e w' => ∃ A' c', e = .returned (.tuple #[.slice A' (ecut f nn (eevery 0 L)).length c', .int .i64 0]) ∧ (ecut f nn (eevery 0 L)).length ≤ c' ∧ ER w' A' (ecut f nn (eevery 0 L)) ∧ Below W.heap.size W w') := Lib.hid fun W hb => equery_yes A n c L f nn W (hA.later hb) hl hu hr hf.1 k1 k2
      have HQG : Hid (ETile f (ecut f nn (eevery 0 L)) (f + nn) ∧ (∀ j, j < (ecut f nn (eevery 0 L)).length → 0 < j → ((ecut f nn (eevery 0 L)).getD (j - 1) default).s ≠ ((ecut f nn (eevery 0 L)).getD j default).s) ∧ (∀ r ∈ ecut f nn (eevery 0 L), f ≤ r.f ∧ r.f + r.n ≤ f + nn) ∧ (∀ r ∈ ecut f nn (eevery 0 L), r.f ≤ x → x < r.f + r.n → r.s = eAt L x) ∧ (ecut f nn (eevery 0 L)).length ≤ 4096) := Lib.hid (by
        have hc := ecut_good hr hf.1 k2
        refine ⟨ecut_tile hr hf.1 k1 k2, ecut_apart hr hf.1 k1 k2, fun r h => ?_, fun r h a b => ((hc.2 x r.s).1 ⟨r, h, a, b, rfl⟩).2.2, ?_⟩
        · have h1 := ec_pos hc.1 r h
          have h2 := (hc.2 r.f r.s).1 ⟨r, h, Int.le_refl _, by omega, rfl⟩
          have h3 := (hc.2 (r.f + r.n - 1) r.s).1 ⟨r, h, by omega, by omega, rfl⟩
          omega
        · have h1 : (ecut f nn (eevery 0 L)).length ≤ (eevery 0 L).length := List.length_filterMap_le _ _
          have h2 := eevery_len L 0
          have := hr.1
          omega)
      have HJ : Hid (∀ J, EPuts L f nn s J → J.length ≤ 64 → ERt J ∧ EPuts J f nn s J ∧ (∀ r ∈ J, EU r) ∧ eAt J x = enew L f nn s x ∧ ecut f nn (eevery 0 J) = [⟨f, nn, s⟩]) := Lib.hid fun J h h64 => by
        have hok := h.ok hr hf.1 k2 hs
        have hJ := ert_of h64 hok h.1
        have hz : ∀ r ∈ J, r.s ≠ 0 := fun r hr => by have := (hok r hr).2.2.2; omega
        exact ⟨hJ, eputs_again h hz, fun r hr => by have := hok r hr; unfold EOk at this; unfold EU; omega, eputs_at h hz x, ecut_all h hJ hf.1 k1 k2⟩
      have HEN : Hid ((f ≤ x ∧ x - f < nn → enew L f nn s x = s) ∧ (¬ (f ≤ x ∧ x - f < nn) → enew L f nn s x = eAt L x)) := Lib.hid (by
        unfold enew
        constructor
        · intro h; rw [if_pos (by omega)]
        · intro h; rw [if_neg (by omega)])
      have HN9 : Hid (0 ≤ f ∧ 1 ≤ nn ∧ f + nn ≤ 576460752303423488 ∧ ESt s) := Lib.hid ⟨hf.1, k1, k2, hs⟩
      generalize eAt L x = old at HA1 HQG HEN
      generalize enew L f nn s x = nw at HJ HEN
      generalize ecut f nn (eevery 0 L) = Q at HQ1 HQG
      clear hA hl hu hr hn hc hw hs
      go_enter Try.func6, Try.ntmps6
      go_wp2_with fail
      refine (HF1.out _ (ba (Below.refl w.heap.size w) _)).mono ?_
      rintro e w1 ⟨rfl, h1⟩
      have HB1 := Lib.hid (bt (ba (Below.refl w.heap.size w) _) h1)
      have HK1 := Lib.hid ((Blk.new w 37 #[.int .u64 f, .int .u64 nn]).below h1)
      have q0 : w1.cell? ⟨w.heap.size, 0, none⟩ = some (.int .u64 f) := HK1.out.cell 0
      have q1 : w1.cell? ⟨w.heap.size, 1, none⟩ = some (.int .u64 nn) := HK1.out.cell 1
      have hre : m.tmod 576460752303423488 = x := by rw [Int.tmod_eq_emod_of_nonneg hm.1]; exact HX.out
      clear h1
      go_wp2_with fail
      refine (HP.out _ HB1.out).mono ?_
      rintro e w2 ⟨J, hJ, h2, h3⟩
      have HB2 := Lib.hid (bt HB1.out h2)
      have HK2 := Lib.hid (HK1.out.below h2)
      replace q0 : w2.cell? ⟨w.heap.size, 0, none⟩ = some (.int .u64 f) := HK2.out.cell 0
      replace q1 : w2.cell? ⟨w.heap.size, 1, none⟩ = some (.int .u64 nn) := HK2.out.cell 1
      clear h2 HP
      rcases h3 with ⟨h64, rfl⟩ | ⟨h64, A2, c2, rfl, hc2, hr2⟩
      · clear h64 HJ hJ
        go_wp2_with fail
        refine (HV.out _ HB2.out).mono ?_
        rintro e w6 ⟨rfl, h6⟩
        have HB6 := Lib.hid (bt HB2.out h6)
        clear h6
        go_wp2
        go_ret
        exact ⟨rfl, HB6.out⟩
      · have HJF := Lib.hid (HJ.out J hJ h64)
        have HJL : Hid (J.length ≤ 64) := Lib.hid h64
        have HJR2 := Lib.hid hr2
        obtain ⟨jl, HJN⟩ : ∃ jl, Hid (J.length = jl) := ⟨_, Lib.hid rfl⟩
        have HJ6 : Hid (jl ≤ 65536) := Lib.hid (by rw [← HJN.out]; omega)
        rw [HJN.out]
        have HP2 : Hid (∀ W, ER W A2 J → Calls Try.prog 17 #[.slice A2 jl c2, .agg #[.int .u64 f, .int .u64 nn], .int .i64 s] W fun e w' => ∃ A' c', e = .returned (.tuple #[.slice A' jl c', .int .i64 0]) ∧ ER w' A' J ∧ Below W.heap.size W w') := Lib.hid fun W hW => by
          refine (eput_yes A2 jl c2 J f nn s W hW HJN.out HJF.out.2.2.1 HJF.out.1 HN9.out.2.2.2 HN9.out.1 HN9.out.2.1 HN9.out.2.2.1).mono ?_
          rintro e w' ⟨J', g1, g2, g3⟩
          obtain rfl : J = J' := (g1.one HJF.out.2.1).symm
          rcases g3 with ⟨g4, _⟩ | ⟨_, A', c', g5, _, g6⟩
          · have := HJL.out; omega
          · exact ⟨A', c', by rw [g5, HJN.out], g6, g2⟩
        have HA2 : Hid (∀ W, ER W A2 J → Calls Try.prog 9 #[.slice A2 jl c2, .int .u64 x] W fun e w' => e = .returned (.tuple #[.int .i64 nw, .int .i64 0]) ∧ Below W.heap.size W w') := Lib.hid fun W hW => by
          have := eat_yes A2 jl c2 J x W hW HJN.out HJF.out.2.2.1 HJF.out.1 hx.2
          rwa [HJF.out.2.2.2.1] at this
        have HRJ : Hid (∀ W, ER W A2 J → Calls Try.prog 10 #[.slice A2 jl c2] W fun e w' => e = .returned (.bool true) ∧ Below W.heap.size W w') := Lib.hid fun W hW => by
          have := eright_any A2 jl c2 J W hW HJN.out HJ6.out HJF.out.2.2.1
          rwa [decide_eq_true HJF.out.1] at this
        have HQ2 : Hid (∀ W, ER W A2 J → Calls Try.prog 20 #[.slice A2 jl c2, .agg #[.int .u64 f, .int .u64 nn]] W fun e w' => ∃ A' c', e = .returned (.tuple #[.slice A' 1 c', .int .i64 0]) ∧ ER w' A' [⟨f, nn, s⟩] ∧ Below W.heap.size W w') := Lib.hid fun W hW => by
          refine (equery_yes A2 jl c2 J f nn W hW HJN.out HJF.out.2.2.1 HJF.out.1 HN9.out.1 HN9.out.2.1 HN9.out.2.2.1).mono ?_
          rintro e w' ⟨A', c', g1, _, g3, g4⟩
          rw [HJF.out.2.2.2.2] at g1 g3
          exact ⟨A', c', g1, g3, g4⟩
        have HSJ : Hid (∀ A3 c3 W, ER W A2 J → ER W A3 J → Calls Try.prog 13 #[.slice A3 jl c3, .slice A2 jl c2] W fun e w' => e = .returned (.bool true) ∧ Below W.heap.size W w') := Lib.hid fun A3 c3 W h1 h2 => (ersame_any A3 A2 c3 c2 jl jl J J W h2 h1 HJN.out HJN.out HJ6.out HJ6.out).mono fun e w' h => by simpa using h
        clear h64 HJ hJ hr2 hc2
        go_wp2_with fail
        refine (HP2.out _ HJR2.out).mono ?_
        rintro e w3 ⟨A3, c3, rfl, hr3, h3⟩
        have HB3 := Lib.hid (bt HB2.out h3)
        have HK3 := Lib.hid (HK2.out.below h3)
        have HJR3 := Lib.hid (HJR2.out.later h3)
        have HAR3 := Lib.hid hr3
        replace q0 : w3.cell? ⟨w.heap.size, 0, none⟩ = some (.int .u64 f) := HK3.out.cell 0
        replace q1 : w3.cell? ⟨w.heap.size, 1, none⟩ = some (.int .u64 nn) := HK3.out.cell 1
        clear h3 hr3 HP2
        go_wp2_with fail
        refine (HA1.out _ HB3.out).mono ?_
        rintro e w4 ⟨rfl, h4⟩
        have HB4 := Lib.hid (bt HB3.out h4)
        have HK4 := Lib.hid (HK3.out.below h4)
        have HJR4 := Lib.hid (HJR3.out.later h4)
        have HAR4 := Lib.hid (HAR3.out.later h4)
        replace q0 : w4.cell? ⟨w.heap.size, 0, none⟩ = some (.int .u64 f) := HK4.out.cell 0
        replace q1 : w4.cell? ⟨w.heap.size, 1, none⟩ = some (.int .u64 nn) := HK4.out.cell 1
        clear h4
        go_wp2_with fail
        refine (HA2.out _ HJR4.out).mono ?_
        rintro e w5 ⟨rfl, h5⟩
        have HB5 := Lib.hid (bt HB4.out h5)
        have HK5 := Lib.hid (HK4.out.below h5)
        have HJR5 := Lib.hid (HJR4.out.later h5)
        have HAR5 := Lib.hid (HAR4.out.later h5)
        replace q0 : w5.cell? ⟨w.heap.size, 0, none⟩ = some (.int .u64 f) := HK5.out.cell 0
        replace q1 : w5.cell? ⟨w.heap.size, 1, none⟩ = some (.int .u64 nn) := HK5.out.cell 1
        clear h5
        go_upto_region 8 with fail
        go_cut [17] from 63 to 75 (fun s17 wx => s17 = .bool (decide (f ≤ x ∧ x - f < nn)) ∧ wx = w5)
        case first =>
          by_cases h1 : f ≤ x
          · have e8 : IntKind.u64.wrap (x - f) = x - f := by rw [IntKind.wrap_u64]; omega
            by_cases h2 : x - f < nn
            · go_wp2_with fail
              go_meet
              case rel => exact ⟨by rw [decide_eq_true ⟨h1, h2⟩], rfl⟩
            · have e2 : decide (x - f < nn) = false := by simpa using h2
              go_wp2_with fail
              go_meet
              case rel => exact ⟨by rw [decide_eq_false (show ¬ (f ≤ x ∧ x - f < nn) by omega)], rfl⟩
          · have e1 : decide (f ≤ x) = false := by simpa using h1
            go_wp2_with fail
            go_meet
            case rel => exact ⟨by rw [decide_eq_false (show ¬ (f ≤ x ∧ x - f < nn) by omega)], rfl⟩
        case rest =>
          obtain ⟨rfl, rfl⟩ := hcut
          by_cases hin : f ≤ x ∧ x - f < nn
          · rw [decide_eq_true hin]
            have hnw := HEN.out.1 hin
            obtain rfl : s = nw := hnw.symm
            have g1 : (s != s) = false := by simp
            clear hnw hin HEN
            go_wp2_with fail
            refine (HSJ.out A3 c3 _ HJR5.out HAR5.out).mono ?_
            rintro e w6 ⟨rfl, h6⟩
            have HB6 := Lib.hid (bt HB5.out h6)
            have HK6 := Lib.hid (HK5.out.below h6)
            have HJR6 := Lib.hid (HJR5.out.later h6)
            have HAR6 := Lib.hid (HAR5.out.later h6)
            replace q0 : w6.cell? ⟨w.heap.size, 0, none⟩ = some (.int .u64 f) := HK6.out.cell 0
            replace q1 : w6.cell? ⟨w.heap.size, 1, none⟩ = some (.int .u64 nn) := HK6.out.cell 1
            clear h6
            go_wp2_with fail
            refine (HRJ.out _ HJR6.out).mono ?_
            rintro e w7 ⟨rfl, h7⟩
            have HB7 := Lib.hid (bt HB6.out h7)
            have HK7 := Lib.hid (HK6.out.below h7)
            have HJR7 := Lib.hid (HJR6.out.later h7)
            replace q0 : w7.cell? ⟨w.heap.size, 0, none⟩ = some (.int .u64 f) := HK7.out.cell 0
            replace q1 : w7.cell? ⟨w.heap.size, 1, none⟩ = some (.int .u64 nn) := HK7.out.cell 1
            clear h7
            go_wp2_with fail
            refine (HV.out _ HB7.out).mono ?_
            rintro e w8 ⟨rfl, h8⟩
            have HB8 := Lib.hid (bt HB7.out h8)
            have HK8 := Lib.hid (HK7.out.below h8)
            have HJR8 := Lib.hid (HJR7.out.later h8)
            replace q0 : w8.cell? ⟨w.heap.size, 0, none⟩ = some (.int .u64 f) := HK8.out.cell 0
            replace q1 : w8.cell? ⟨w.heap.size, 1, none⟩ = some (.int .u64 nn) := HK8.out.cell 1
            clear h8
            go_wp2_with fail
            refine (HQ1.out _ HB8.out).mono ?_
            rintro e w9 ⟨A9, c9, rfl, hc9, hr9, h9⟩
            have HB9 := Lib.hid (bt HB8.out h9)
            have HK9 := Lib.hid (HK8.out.below h9)
            have HJR9 := Lib.hid (HJR8.out.later h9)
            have HQR9 := Lib.hid hr9
            clear hr9 hc9
            replace q0 : w9.cell? ⟨w.heap.size, 0, none⟩ = some (.int .u64 f) := HK9.out.cell 0
            replace q1 : w9.cell? ⟨w.heap.size, 1, none⟩ = some (.int .u64 nn) := HK9.out.cell 1
            clear h9
            obtain ⟨ql, HQN⟩ : ∃ ql, Hid (Q.length = ql) := ⟨_, Lib.hid rfl⟩
            have HQT : Hid (ETile f (Q.drop 0) (f + nn)) := Lib.hid HQG.out.1
            have hql : ql ≤ 4096 := by rw [← HQN.out]; exact HQG.out.2.2.2.2
            have hfn := HN9.out
            rw [HQN.out]
            go_wp2_with fail
            go_loopw [20, 128] (fun fv iv wr => ∃ (k : Nat) (a : Int), k ≤ ql ∧ iv = .int .i64 k ∧ fv = .int .u64 a ∧ f ≤ a ∧ Hid (ETile a (Q.drop k) (f + nn)) ∧ Hid (ER wr A2 J) ∧ Hid (ER wr A9 Q) ∧ Hid (Blk wr w.heap.size 37 #[.int .u64 f, .int .u64 nn]) ∧ Hid (Below w.heap.size w wr)) (fun _ i _ => ql - (intOf i).toNat)
            case atStart => exact ⟨0, f, Nat.zero_le _, rfl, rfl, Int.le_refl _, HQT, HJR9, HQR9, HK9, HB9⟩
            case round =>
              obtain ⟨k, a, hk, rfl, rfl, hfa, HT, HJW, HQW, HKW, HBW⟩ := hrel
              by_cases hlt : k < ql
              · obtain ⟨g, off, rfl, d0, d1, d2⟩ := HQW.out k (by rw [HQN.out]; exact hlt)
                have HD : Hid (Q.drop k = Q.getD k default :: Q.drop (k + 1)) := Lib.hid (by have hlt' : k < Q.length := (by rw [HQN.out]; exact hlt); rw [List.drop_eq_getElem_cons hlt']; simp [List.getD, hlt'])
                rw [HD.out] at HT
                have HMEM : Hid (Q.getD k default ∈ Q) := Lib.hid (egetD_mem (by rw [HQN.out]; exact hlt))
                have hbd := HQG.out.2.2.1 _ HMEM.out
                have HOLD := Lib.hid (HQG.out.2.2.2.1 _ HMEM.out)
                have i1 : (0 : Int) ≤ (k : Int) := by omega
                have i2 : (k : Int) < (ql : Int) := by omega
                obtain ⟨t1, t2, t3⟩ := HT.out
                have HT2 := Lib.hid t3
                have hBx : Hid (Below wr.heap.size wr (wr.alloc (.cells #[.int .u64 (Q.getD k default).f, .int .u64 (Q.getD k default).n, .int .i64 (Q.getD k default).s] 47))) := Lib.hid (ba (Below.refl _ _) _)
                have HJX := Lib.hid (HJW.out.later hBx.out)
                have HQX := Lib.hid (HQW.out.later hBx.out)
                have HKX := Lib.hid (HKW.out.below hBx.out)
                have HBX := Lib.hid (bt HBW.out hBx.out)
                clear HD HMEM t3 HT hBx
                rcases Nat.eq_zero_or_pos k with rfl | hk0
                · have d9 : decide ((0 : Int) < 0) = false := by simp
                  generalize Q.getD 0 default = r at *
                  obtain ⟨rf, rn, rs⟩ := r
                  simp only at d0 d1 d2 hbd HOLD t1 t2 HT2 HJX HQX HKX HBX
                  simp only [Nat.zero_mul, Nat.add_zero] at d0 d1 d2
                  subst t1
                  have u1 : (rf != rf) = false := by simp
                  have u2 : (rn == 0) = false := by simp; omega
                  have u3 : IntKind.u64.wrap (rf + rn) = rf + rn := by rw [IntKind.wrap_u64]; omega
                  by_cases v1 : rf ≤ x
                  · have v2 : IntKind.u64.wrap (x - rf) = x - rf := by rw [IntKind.wrap_u64]; omega
                    by_cases v3 : x - rf < rn
                    · have v4 : rs = old := HOLD.out v1 (by show x < rf + rn; omega)
                      have v5 : (rs != old) = false := by simpa using v4
                      clear v4
                      go_wp2_with fail
                      go_quiet (fail)
                      go_wp2
                      exact ⟨⟨0 + 1, rf + rn, by omega, by go_num, rfl, by omega, HT2, HJX, HQX, HKX, Lib.hid (bdn' HBX.out _)⟩, by simp [intOf]; omega⟩
                    · have v4 : decide (x - rf < rn) = false := by simpa using v3
                      clear v3
                      go_wp2_with fail
                      go_quiet (fail)
                      go_wp2
                      exact ⟨⟨0 + 1, rf + rn, by omega, by go_num, rfl, by omega, HT2, HJX, HQX, HKX, Lib.hid (bdn' HBX.out _)⟩, by simp [intOf]; omega⟩
                  · have v2 : decide (rf ≤ x) = false := by simpa using v1
                    clear v1
                    go_wp2_with fail
                    go_quiet (fail)
                    go_wp2
                    exact ⟨⟨0 + 1, rf + rn, by omega, by go_num, rfl, by omega, HT2, HJX, HQX, HKX, Lib.hid (bdn' HBX.out _)⟩, by simp [intOf]; omega⟩
                · obtain ⟨j, rfl⟩ : ∃ j, k = j + 1 := ⟨k - 1, by omega⟩
                  obtain ⟨g', off', e, b0, b1, b2⟩ := HQX.out j (by rw [HQN.out]; omega)
                  obtain ⟨rfl, rfl⟩ : g = g' ∧ off = off' := by injection e with e; injection e with e1 e2; exact ⟨e1, e2⟩
                  have hap := HQG.out.2.1 (j + 1) (by rw [HQN.out]; exact hlt) (by omega)
                  rw [Nat.add_sub_cancel] at hap
                  have e0 : IntKind.i64.wrap (((j + 1 : Nat) : Int) - 1) = (j : Int) := by rw [IntKind.wrap_i64]; omega
                  have e1 : (0 : Int) < ((j + 1 : Nat) : Int) := by omega
                  have e5 : IntKind.i64.wrap ((j : Int) + 1 - 1) = (j : Int) := by rw [IntKind.wrap_i64]; omega
                  have e6 : (0 : Int) < (j : Int) + 1 := by omega
                  have e7 : IntKind.i64.wrap (j : Int) = (j : Int) := by rw [IntKind.wrap_i64]; omega
                  have e2 : (0 : Int) ≤ (j : Int) := by omega
                  have e3 : (j : Int) < (ql : Int) := by omega
                  generalize Q.getD (j + 1) default = r at *
                  generalize Q.getD j default = y at *
                  obtain ⟨rf, rn, rs⟩ := r
                  obtain ⟨yf, yn, ys⟩ := y
                  simp only at d0 d1 d2 hbd HOLD t1 t2 HT2 HJX HQX HKX HBX b0 b1 b2 hap
                  subst t1
                  have u0 : (ys == rs) = false := by simpa using hap
                  have u1 : (rf != rf) = false := by simp
                  have u2 : (rn == 0) = false := by simp; omega
                  have u3 : IntKind.u64.wrap (rf + rn) = rf + rn := by rw [IntKind.wrap_u64]; omega
                  clear hap e b0 b1
                  by_cases v1 : rf ≤ x
                  · have v2 : IntKind.u64.wrap (x - rf) = x - rf := by rw [IntKind.wrap_u64]; omega
                    by_cases v3 : x - rf < rn
                    · have v4 : rs = old := HOLD.out v1 (by show x < rf + rn; omega)
                      have v5 : (rs != old) = false := by simpa using v4
                      clear v4
                      go_wp2_with fail
                      go_quiet (fail)
                      go_wp2
                      exact ⟨⟨j + 1 + 1, rf + rn, by omega, by go_num, rfl, by omega, HT2, HJX, HQX, HKX, Lib.hid (bdn' HBX.out _)⟩, by simp [intOf]; omega⟩
                    · have v4 : decide (x - rf < rn) = false := by simpa using v3
                      clear v3
                      go_wp2_with fail
                      go_quiet (fail)
                      go_wp2
                      exact ⟨⟨j + 1 + 1, rf + rn, by omega, by go_num, rfl, by omega, HT2, HJX, HQX, HKX, Lib.hid (bdn' HBX.out _)⟩, by simp [intOf]; omega⟩
                  · have v2 : decide (rf ≤ x) = false := by simpa using v1
                    clear v1
                    go_wp2_with fail
                    go_quiet (fail)
                    go_wp2
                    exact ⟨⟨j + 1 + 1, rf + rn, by omega, by go_num, rfl, by omega, HT2, HJX, HQX, HKX, Lib.hid (bdn' HBX.out _)⟩, by simp [intOf]; omega⟩
              · obtain rfl : k = ql := by omega
                have hend : a = f + nn := by
                  have := HT.out
                  rw [← HQN.out, List.drop_length] at this
                  exact this
                subst hend
                have u4 : IntKind.u64.wrap (f + nn - f) = nn := by rw [IntKind.wrap_u64]; omega
                have q8 : wr.cell? ⟨w.heap.size, 0, none⟩ = some (.int .u64 f) := HKW.out.cell 0
                have q9 : wr.cell? ⟨w.heap.size, 1, none⟩ = some (.int .u64 nn) := HKW.out.cell 1
                go_wp2_with fail
                refine (HQ2.out _ HJW.out).mono ?_
                rintro e w10 ⟨A10, c10, rfl, hr10, h10⟩
                have HB10 := Lib.hid (bt HBW.out h10)
                have p8 : w10.cell? ⟨w.heap.size, 0, none⟩ = some (.int .u64 f) := (HKW.out.below h10).cell 0
                have p9 : w10.cell? ⟨w.heap.size, 1, none⟩ = some (.int .u64 nn) := (HKW.out.below h10).cell 1
                obtain ⟨g, off, rfl, d0, d1, d2⟩ := hr10 0 (by simp)
                simp only [Nat.zero_mul, Nat.add_zero, List.getD_cons_zero] at d0 d1 d2
                clear h10 hr10
                go_wp2_with fail
                go_quiet (fail)
                go_wp2
                go_ret
                exact ⟨rfl, bdn' HB10.out _⟩
          · rw [decide_eq_false hin]
            have hnw := HEN.out.2 hin
            obtain rfl : old = nw := hnw.symm
            have g1 : (old != old) = false := by simp
            clear hnw hin HEN
            go_wp2_with fail
            refine (HSJ.out A3 c3 _ HJR5.out HAR5.out).mono ?_
            rintro e w6 ⟨rfl, h6⟩
            have HB6 := Lib.hid (bt HB5.out h6)
            have HK6 := Lib.hid (HK5.out.below h6)
            have HJR6 := Lib.hid (HJR5.out.later h6)
            have HAR6 := Lib.hid (HAR5.out.later h6)
            replace q0 : w6.cell? ⟨w.heap.size, 0, none⟩ = some (.int .u64 f) := HK6.out.cell 0
            replace q1 : w6.cell? ⟨w.heap.size, 1, none⟩ = some (.int .u64 nn) := HK6.out.cell 1
            clear h6
            go_wp2_with fail
            refine (HRJ.out _ HJR6.out).mono ?_
            rintro e w7 ⟨rfl, h7⟩
            have HB7 := Lib.hid (bt HB6.out h7)
            have HK7 := Lib.hid (HK6.out.below h7)
            have HJR7 := Lib.hid (HJR6.out.later h7)
            replace q0 : w7.cell? ⟨w.heap.size, 0, none⟩ = some (.int .u64 f) := HK7.out.cell 0
            replace q1 : w7.cell? ⟨w.heap.size, 1, none⟩ = some (.int .u64 nn) := HK7.out.cell 1
            clear h7
            go_wp2_with fail
            refine (HV.out _ HB7.out).mono ?_
            rintro e w8 ⟨rfl, h8⟩
            have HB8 := Lib.hid (bt HB7.out h8)
            have HK8 := Lib.hid (HK7.out.below h8)
            have HJR8 := Lib.hid (HJR7.out.later h8)
            replace q0 : w8.cell? ⟨w.heap.size, 0, none⟩ = some (.int .u64 f) := HK8.out.cell 0
            replace q1 : w8.cell? ⟨w.heap.size, 1, none⟩ = some (.int .u64 nn) := HK8.out.cell 1
            clear h8
            go_wp2_with fail
            refine (HQ1.out _ HB8.out).mono ?_
            rintro e w9 ⟨A9, c9, rfl, hc9, hr9, h9⟩
            have HB9 := Lib.hid (bt HB8.out h9)
            have HK9 := Lib.hid (HK8.out.below h9)
            have HJR9 := Lib.hid (HJR8.out.later h9)
            have HQR9 := Lib.hid hr9
            clear hr9 hc9
            replace q0 : w9.cell? ⟨w.heap.size, 0, none⟩ = some (.int .u64 f) := HK9.out.cell 0
            replace q1 : w9.cell? ⟨w.heap.size, 1, none⟩ = some (.int .u64 nn) := HK9.out.cell 1
            clear h9
            obtain ⟨ql, HQN⟩ : ∃ ql, Hid (Q.length = ql) := ⟨_, Lib.hid rfl⟩
            have HQT : Hid (ETile f (Q.drop 0) (f + nn)) := Lib.hid HQG.out.1
            have hql : ql ≤ 4096 := by rw [← HQN.out]; exact HQG.out.2.2.2.2
            have hfn := HN9.out
            rw [HQN.out]
            go_wp2_with fail
            go_loopw [20, 128] (fun fv iv wr => ∃ (k : Nat) (a : Int), k ≤ ql ∧ iv = .int .i64 k ∧ fv = .int .u64 a ∧ f ≤ a ∧ Hid (ETile a (Q.drop k) (f + nn)) ∧ Hid (ER wr A2 J) ∧ Hid (ER wr A9 Q) ∧ Hid (Blk wr w.heap.size 37 #[.int .u64 f, .int .u64 nn]) ∧ Hid (Below w.heap.size w wr)) (fun _ i _ => ql - (intOf i).toNat)
            case atStart => exact ⟨0, f, Nat.zero_le _, rfl, rfl, Int.le_refl _, HQT, HJR9, HQR9, HK9, HB9⟩
            case round =>
              obtain ⟨k, a, hk, rfl, rfl, hfa, HT, HJW, HQW, HKW, HBW⟩ := hrel
              by_cases hlt : k < ql
              · obtain ⟨g, off, rfl, d0, d1, d2⟩ := HQW.out k (by rw [HQN.out]; exact hlt)
                have HD : Hid (Q.drop k = Q.getD k default :: Q.drop (k + 1)) := Lib.hid (by have hlt' : k < Q.length := (by rw [HQN.out]; exact hlt); rw [List.drop_eq_getElem_cons hlt']; simp [List.getD, hlt'])
                rw [HD.out] at HT
                have HMEM : Hid (Q.getD k default ∈ Q) := Lib.hid (egetD_mem (by rw [HQN.out]; exact hlt))
                have hbd := HQG.out.2.2.1 _ HMEM.out
                have HOLD := Lib.hid (HQG.out.2.2.2.1 _ HMEM.out)
                have i1 : (0 : Int) ≤ (k : Int) := by omega
                have i2 : (k : Int) < (ql : Int) := by omega
                obtain ⟨t1, t2, t3⟩ := HT.out
                have HT2 := Lib.hid t3
                have hBx : Hid (Below wr.heap.size wr (wr.alloc (.cells #[.int .u64 (Q.getD k default).f, .int .u64 (Q.getD k default).n, .int .i64 (Q.getD k default).s] 47))) := Lib.hid (ba (Below.refl _ _) _)
                have HJX := Lib.hid (HJW.out.later hBx.out)
                have HQX := Lib.hid (HQW.out.later hBx.out)
                have HKX := Lib.hid (HKW.out.below hBx.out)
                have HBX := Lib.hid (bt HBW.out hBx.out)
                clear HD HMEM t3 HT hBx
                rcases Nat.eq_zero_or_pos k with rfl | hk0
                · have d9 : decide ((0 : Int) < 0) = false := by simp
                  generalize Q.getD 0 default = r at *
                  obtain ⟨rf, rn, rs⟩ := r
                  simp only at d0 d1 d2 hbd HOLD t1 t2 HT2 HJX HQX HKX HBX
                  simp only [Nat.zero_mul, Nat.add_zero] at d0 d1 d2
                  subst t1
                  have u1 : (rf != rf) = false := by simp
                  have u2 : (rn == 0) = false := by simp; omega
                  have u3 : IntKind.u64.wrap (rf + rn) = rf + rn := by rw [IntKind.wrap_u64]; omega
                  go_wp2_with fail
                  go_quiet (fail)
                  go_wp2
                  exact ⟨⟨0 + 1, rf + rn, by omega, by go_num, rfl, by omega, HT2, HJX, HQX, HKX, Lib.hid (bdn' HBX.out _)⟩, by simp [intOf]; omega⟩
                · obtain ⟨j, rfl⟩ : ∃ j, k = j + 1 := ⟨k - 1, by omega⟩
                  obtain ⟨g', off', e, b0, b1, b2⟩ := HQX.out j (by rw [HQN.out]; omega)
                  obtain ⟨rfl, rfl⟩ : g = g' ∧ off = off' := by injection e with e; injection e with e1 e2; exact ⟨e1, e2⟩
                  have hap := HQG.out.2.1 (j + 1) (by rw [HQN.out]; exact hlt) (by omega)
                  rw [Nat.add_sub_cancel] at hap
                  have e0 : IntKind.i64.wrap (((j + 1 : Nat) : Int) - 1) = (j : Int) := by rw [IntKind.wrap_i64]; omega
                  have e1 : (0 : Int) < ((j + 1 : Nat) : Int) := by omega
                  have e5 : IntKind.i64.wrap ((j : Int) + 1 - 1) = (j : Int) := by rw [IntKind.wrap_i64]; omega
                  have e6 : (0 : Int) < (j : Int) + 1 := by omega
                  have e7 : IntKind.i64.wrap (j : Int) = (j : Int) := by rw [IntKind.wrap_i64]; omega
                  have e2 : (0 : Int) ≤ (j : Int) := by omega
                  have e3 : (j : Int) < (ql : Int) := by omega
                  generalize Q.getD (j + 1) default = r at *
                  generalize Q.getD j default = y at *
                  obtain ⟨rf, rn, rs⟩ := r
                  obtain ⟨yf, yn, ys⟩ := y
                  simp only at d0 d1 d2 hbd HOLD t1 t2 HT2 HJX HQX HKX HBX b0 b1 b2 hap
                  subst t1
                  have u0 : (ys == rs) = false := by simpa using hap
                  have u1 : (rf != rf) = false := by simp
                  have u2 : (rn == 0) = false := by simp; omega
                  have u3 : IntKind.u64.wrap (rf + rn) = rf + rn := by rw [IntKind.wrap_u64]; omega
                  clear hap e b0 b1
                  go_wp2_with fail
                  go_quiet (fail)
                  go_wp2
                  exact ⟨⟨j + 1 + 1, rf + rn, by omega, by go_num, rfl, by omega, HT2, HJX, HQX, HKX, Lib.hid (bdn' HBX.out _)⟩, by simp [intOf]; omega⟩
              · obtain rfl : k = ql := by omega
                have hend : a = f + nn := by
                  have := HT.out
                  rw [← HQN.out, List.drop_length] at this
                  exact this
                subst hend
                have u4 : IntKind.u64.wrap (f + nn - f) = nn := by rw [IntKind.wrap_u64]; omega
                have q8 : wr.cell? ⟨w.heap.size, 0, none⟩ = some (.int .u64 f) := HKW.out.cell 0
                have q9 : wr.cell? ⟨w.heap.size, 1, none⟩ = some (.int .u64 nn) := HKW.out.cell 1
                go_wp2_with fail
                refine (HQ2.out _ HJW.out).mono ?_
                rintro e w10 ⟨A10, c10, rfl, hr10, h10⟩
                have HB10 := Lib.hid (bt HBW.out h10)
                have p8 : w10.cell? ⟨w.heap.size, 0, none⟩ = some (.int .u64 f) := (HKW.out.below h10).cell 0
                have p9 : w10.cell? ⟨w.heap.size, 1, none⟩ = some (.int .u64 nn) := (HKW.out.below h10).cell 1
                obtain ⟨g, off, rfl, d0, d1, d2⟩ := hr10 0 (by simp)
                simp only [Nat.zero_mul, Nat.add_zero, List.getD_cons_zero] at d0 d1 d2
                clear h10 hr10
                go_wp2_with fail
                go_quiet (fail)
                go_wp2
                go_ret
                exact ⟨rfl, bdn' HB10.out _⟩
    · have HP : Hid (∀ W, Below w.heap.size w W → Calls Try.prog 17 #[.slice A n c, .agg #[.int .u64 f, .int .u64 nn], .int .i64 s] W fun e w' => e = .returned (.tuple #[.slice none 0 0, .int .i64 (ewhy f nn)]) ∧ Below W.heap.size W w') := Lib.hid fun W hb => eput_bad A n c L f nn s W (hA.later hb) hl (by omega) hu hr hs hf.1 hf.2 hnn.1 hnn.2 hw
      generalize ewhy f nn = y at HP hw
      have y1 : (y != 0) = true := by simpa using hw
      have y2 : (y == 0) = false := by simpa using hw
      clear hA hl hu hr hn hc hw hs
      go_enter Try.func6, Try.ntmps6
      go_wp2_with fail
      refine (HF1.out _ (ba (Below.refl w.heap.size w) _)).mono ?_
      rintro e w1 ⟨rfl, h1⟩
      have HB1 := Lib.hid (bt (ba (Below.refl w.heap.size w) _) h1)
      have q0 : w1.cell? ⟨w.heap.size, 0, none⟩ = some (.int .u64 f) := ((Blk.new w 37 #[.int .u64 f, .int .u64 nn]).below h1).cell 0
      have q1 : w1.cell? ⟨w.heap.size, 1, none⟩ = some (.int .u64 nn) := ((Blk.new w 37 #[.int .u64 f, .int .u64 nn]).below h1).cell 1
      clear h1
      go_wp2_with fail
      refine (HP.out _ HB1.out).mono ?_
      rintro e w2 ⟨rfl, h2⟩
      have HB2 := Lib.hid (bt HB1.out h2)
      replace q0 := ecell h2 q0
      replace q1 := ecell h2 q1
      clear h2
      go_wp2_with fail
      refine (HV.out _ HB2.out).mono ?_
      rintro e w3 ⟨rfl, h3⟩
      have HB3 := Lib.hid (bt HB2.out h3)
      replace q0 := ecell h3 q0
      replace q1 := ecell h3 q1
      clear h3
      go_wp2
      go_ret
      exact ⟨rfl, HB3.out⟩
  · have HP : Hid (∀ W, Below w.heap.size w W → Calls Try.prog 17 #[.slice A n c, .agg #[.int .u64 f, .int .u64 nn], .int .i64 s] W fun e w' => e = .returned (.tuple #[.slice none 0 0, .int .i64 1]) ∧ Below W.heap.size W w') := Lib.hid fun W hb => eput_arg A n c L f nn s W (hA.later hb) hl (by omega) hu hrs
    clear hA hl hu hn hc hrs
    go_enter Try.func6, Try.ntmps6
    go_wp2_with fail
    refine (HF1.out _ (ba (Below.refl w.heap.size w) _)).mono ?_
    rintro e w1 ⟨rfl, h1⟩
    have HB1 := Lib.hid (bt (ba (Below.refl w.heap.size w) _) h1)
    have q0 : w1.cell? ⟨w.heap.size, 0, none⟩ = some (.int .u64 f) := ((Blk.new w 37 #[.int .u64 f, .int .u64 nn]).below h1).cell 0
    have q1 : w1.cell? ⟨w.heap.size, 1, none⟩ = some (.int .u64 nn) := ((Blk.new w 37 #[.int .u64 f, .int .u64 nn]).below h1).cell 1
    clear h1
    go_wp2_with fail
    refine (HP.out _ HB1.out).mono ?_
    rintro e w2 ⟨rfl, h2⟩
    have HB2 := Lib.hid (bt HB1.out h2)
    replace q0 := ecell h2 q0
    replace q1 := ecell h2 q1
    clear h2
    go_wp2_with fail
    refine (HV.out _ HB2.out).mono ?_
    rintro e w3 ⟨rfl, h3⟩
    have HB3 := Lib.hid (bt HB2.out h3)
    replace q0 := ecell h3 q0
    replace q1 := ecell h3 q1
    clear h3
    go_wp2
    go_ret
    exact ⟨rfl, HB3.out⟩
theorem estayslaw_any (A : Option Addr) (c : Nat) (L : List Rn) (f nn s m : Int) (w : World) (hc : L.length ≤ c) (hA : ER w A L) (hu : ∀ r ∈ L, EU r) (hf : 0 ≤ f ∧ f ≤ 18446744073709551615) (hnn : 0 ≤ nn ∧ nn ≤ 18446744073709551615) (hm : 0 ≤ m ∧ m ≤ 18446744073709551615) :
    Calls Try.prog 6 #[.slice A L.length c, .agg #[.int .u64 f, .int .u64 nn], .int .i64 s, .int .u64 m] w fun e w' => e = .returned (.bool true) ∧ Below w.heap.size w w' :=
  estays_in A L.length _ c (L.take 66) f nn s m w hc rfl (by rw [List.length_take, Nat.min_comm]) (hA.take 66) (fun r hr => hu r (List.mem_of_mem_take hr)) hf hnn hm
end Go.Proofs.Ythimnpiiehggnaa
