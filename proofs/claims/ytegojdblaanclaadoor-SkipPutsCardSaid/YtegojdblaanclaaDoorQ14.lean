/- Texts of this seat, one behind the other: ILawP, VLaid, U64, IOpen, VRefs. -/
import Derived.LaidMore
import Derived.OpenShut
import Derived.Stop.Joined
import Derived.Deep.Strs
import Derived.ChangeSlices
import Derived.Test.YtegojdblaanclaaDoorQ01
import Derived.Test.YtegojdblaanclaaDoorQ03
import Derived.Test.YtegojdblaanclaaDoorQ11
import Derived.Test.YtegojdblaanclaaDoorQ12
import Derived.Test.YtegojdblaanclaaDoorQ13
/- The walk of SkipPuts. -/
namespace Go.Proofs.YtegojdblaanclaaDoor
open Go.RowKit

set_option maxRecDepth 100000 in
set_option maxHeartbeats 1000000 in
theorem ifew_any (A : Option Addr) (M c : Nat) (w : World) (hc : M ≤ c) : Calls Tryd.prog 7 #[.slice A M c] w fun e w' => e = .returned (.slice A (min M 66) c) ∧ Below w.heap.size w w' := by
  obtain ⟨a, ha⟩ : ∃ a, min M 66 = a := ⟨_, rfl⟩
  rw [ha]
  have h1 : min (M : Int) 66 = (a : Int) := by omega
  have hs := fun W => icut_run A M c a (by omega) W
  clear ha
  go_enter Tryd.func7, Tryd.ntmps7
  go_wp2
  go_ret
  exact ⟨rfl, Below.refl _ _⟩
theorem isame_same (A B : Option Addr) (c d : Nat) (P : List ItL) (w : World) (hA : IR w A P) (hB : IR w B P) (hn : P.length ≤ 65536) :
    Calls Tryd.prog 13 #[.slice A P.length c, .slice B P.length d] w fun e w' => e = .returned (.bool true) ∧ Below w.heap.size w w' := by
  have h := isame_any A B c d P.length P.length P P w hA hB rfl rfl hn hn
  rwa [show decide (P = P) = true from decide_eq_true rfl] at h
theorem iatZ_has {L : List ItL} {k : Nat} (h : ihas L k) : 0 ≤ iatZ L k := by rw [iatZ, if_pos h]; omega
theorem iatZ_not {L : List ItL} {k : Nat} (h : ¬ ihas L k) : iatZ L k < 0 := by rw [iatZ, if_neg h]; omega

set_option maxRecDepth 100000 in
set_option maxHeartbeats 16000000 in
theorem ilawP_any (A A' : Option Addr) (c c' : Nat) (L0 M0 : List ItL) (xk k : Nat) (xs : List UInt8) (w : World) (hA0 : IR w A L0) (hc0 : L0.length ≤ c) (hA1 : IR w A' M0) (hc1 : M0.length ≤ c') (hT : VTab w) :
    Calls Tryd.prog 3 #[.slice A L0.length c, .slice A' M0.length c', .agg #[.int .u64 (xk : Int), sv xs], .int .u64 (k : Int)] w fun e w' => e = .returned (.bool true) ∧ Below w.heap.size w w' := by
  obtain ⟨n, hn⟩ : ∃ n, min L0.length 66 = n := ⟨_, rfl⟩
  obtain ⟨m, hm⟩ : ∃ m, min M0.length 66 = m := ⟨_, rfl⟩
  obtain ⟨L, hL⟩ : ∃ L, L0.take n = L := ⟨_, rfl⟩
  obtain ⟨M, hM⟩ : ∃ M, M0.take m = M := ⟨_, rfl⟩
  have hl : L.length = n := by rw [← hL, List.length_take]; omega
  have hml : M.length = m := by rw [← hM, List.length_take]; omega
  have hA : IR w A L := by rw [← hL]; exact hA0.take n
  have hB : IR w A' M := by rw [← hM]; exact hA1.take m
  have hn66 : n ≤ 66 := by omega
  have hm66 : m ≤ 66 := by omega
  have hc : n ≤ c := by omega
  have hc2 : m ≤ c' := by omega
  have HF1 := Lib.hid (fun W => ifew_any A L0.length c W hc0)
  have HF2 := Lib.hid (fun W => ifew_any A' M0.length c' W hc1)
  rw [hn] at HF1
  rw [hm] at HF2
  clear hA0 hA1 hc0 hc1 hn hm hL hM
  have hz := isize xs
  have HPUT := Lib.hid (fun W (hb : Below w.heap.size w W) => iput_any A n c xk xs L W (hA.later hb) hl hc (by omega))
  have HDRP := Lib.hid (fun W (hb : Below w.heap.size w W) => idrop_any A n c k L W (hA.later hb) hl hc (by omega))
  have HRT := Lib.hid (fun W (hb : Below w.heap.size w W) => iright_any A n c L W (hA.later hb) hl (by omega))
  have HRR := Lib.hid (fun W (hb : Below w.heap.size w W) => irright_ref A n c L W (hA.later hb) hl hc (by omega))
  have HLK := Lib.hid (fun W (hb : Below w.heap.size w W) => ilike_any A A' c c' n m L M W (hA.later hb) (hB.later hb) hl hml (by omega) (by omega))
  have HSM := Lib.hid (fun W (hb : Below w.heap.size w W) => isame_any A A' c c' n m L M W (hA.later hb) (hB.later hb) hl hml (by omega) (by omega))
  have HLL := Lib.hid (fun W (hb : Below w.heap.size w W) => ilike_any A A c c n n L L W (hA.later hb) (hA.later hb) hl hl (by omega) (by omega))
  have HAL := Lib.hid (fun W (hb : Below w.heap.size w W) => ialive_any W (hT.later hb))
  rw [decide_eq_true (rfl : L = L)] at HLL
  generalize decide (L = M) = Y at HLK HSM
  have hY : (Y != Y) = false := by simp
  have B0 := Lib.hid (ba (Below.refl w.heap.size w) (.cells #[.int .u64 (xk : Int), sv xs] 25))
  have X0 : Hid (Blk (w.alloc (.cells #[.int .u64 (xk : Int), sv xs] 25)) w.heap.size 25 #[.int .u64 (xk : Int), sv xs]) := Lib.hid (Blk.new w _ _)
  by_cases hr : IRt L
  · rw [decide_eq_true hr] at HRT HRR
    have HDN : Hid (ihas L k → idropE L k = 0 ∧ idropR L k = idrop L k) := Lib.hid fun h => idropE_yes hr h
    have HDO : Hid (¬ ihas L k → idropE L k = 3 ∧ idropR L k = []) := Lib.hid fun h => idropE_none hr h
    have HAT := Lib.hid (fun W (hb : Below w.heap.size w W) => irat_any A n c k L W (hA.later hb) hl hr.up (by omega))
    have HAX := Lib.hid (fun W (hb : Below w.heap.size w W) => irat_any A n c xk L W (hA.later hb) hl hr.up (by omega))
    have HRD := Lib.hid (fun W (hb : Below w.heap.size w W) => irdrop_any A n c k L W (hA.later hb) hl (by omega))
    have HRP := Lib.hid (fun W (hb : Below w.heap.size w W) => irput_any A n c xk xs L W (hA.later hb) hl (by omega))
    have HSD := Lib.hid (fun (P : List ItL) (hP : P.length ≤ 65536) C1 C2 d1 d2 W (h1 : IR W C1 P) (h2 : IR W C2 P) => isame_same C1 C2 d1 d2 P W h1 h2 hP)
    have HDL : Hid ((idrop L k).length ≤ 65536) := Lib.hid (by have := List.length_filter_le (fun y : ItL => decide (y.1 ≠ k)) L; rw [idrop]; omega)
    have HPL : Hid ((iput L (xk, xs)).length ≤ 65536) := Lib.hid (by have := iput_len (L := L) (xk, xs); omega)
    have HP1 : Hid (¬ xs.length ≤ 64 → iputE L (xk, xs) = 4 ∧ iputR L (xk, xs) = []) := Lib.hid fun h => iputE_size hr h
    have HP2 : Hid (xs.length ≤ 64 → n = 64 → ¬ ihas L xk → iputE L (xk, xs) = 6 ∧ iputR L (xk, xs) = []) := Lib.hid fun h h2 h3 => iputE_space hr h (fun h4 => h4.elim h3 (fun h5 => by omega))
    have HP3 : Hid (xs.length ≤ 64 → (ihas L xk ∨ n ≠ 64) → iputE L (xk, xs) = 0 ∧ iputR L (xk, xs) = iput L (xk, xs)) := Lib.hid fun h h2 => iputE_yes hr h (h2.elim .inl (fun h5 => .inr (by have := hr.1; omega)))
    have HZ1 : Hid (ihas L k → 0 ≤ iatZ L k) := Lib.hid iatZ_has
    have HZ2 : Hid (¬ ihas L k → iatZ L k < 0) := Lib.hid iatZ_not
    have HZ3 : Hid (ihas L xk → 0 ≤ iatZ L xk) := Lib.hid iatZ_has
    have HZ4 : Hid (¬ ihas L xk → iatZ L xk < 0) := Lib.hid iatZ_not
    clear hA hB hl hml hT hr
    generalize iatZ L k = z at *
    generalize iatZ L xk = zx at *
    generalize iputE L (xk, xs) = E at *
    generalize iputR L (xk, xs) = P at *
    generalize idropE L k = F at *
    generalize idropR L k = D at *
    generalize iput L (xk, xs) = PP at *
    generalize idrop L k = DD at *
    generalize xs.length = N at *
    generalize ihas L k = hk at *
    generalize ihas L xk = hx at *
    go_enter Tryd.func3, Tryd.ntmps3
    go_wp2_with fail
    refine (HF1.out _).mono ?_
    rintro e w1 ⟨rfl, hb⟩
    have B1 := Lib.hid (bt B0.out hb)
    have X1 := Lib.hid (X0.out.below hb)
    clear hb B0 X0
    go_wp2_with fail
    refine (HF2.out _).mono ?_
    rintro e w2 ⟨rfl, hb⟩
    have B2 := Lib.hid (bt B1.out hb)
    have X2 := Lib.hid (X1.out.below hb)
    clear hb B1 X1
    have k0 := X2.out.cell 0
    have k1 := X2.out.cell 1
    simp only [List.getElem?_toArray, List.getElem?_cons_zero, List.getElem?_cons_succ] at k0 k1
    go_wp2_with fail
    refine (HPUT.out _ B2.out).mono ?_
    rintro e w3 ⟨C1, d1, rfl, _, hI1, hb⟩
    have B3 := Lib.hid (bt B2.out hb)
    have X3 := Lib.hid (X2.out.below hb)
    clear hb B2 X2 k0 k1
    have HI1 := Lib.hid hI1
    clear hI1 HPUT HF1 HF2
    go_wp2_with fail
    refine (HDRP.out _ B3.out).mono ?_
    rintro e w4 ⟨C2, d2, rfl, _, hI2, hb⟩
    have B4 := Lib.hid (bt B3.out hb)
    have X4 := Lib.hid (X3.out.below hb)
    replace HI1 := Lib.hid (HI1.out.later hb)
    clear hb B3 X3
    have HI2 := Lib.hid hI2
    clear hI2 HDRP
    go_wp2_with fail
    refine (HRT.out _ B4.out).mono ?_
    rintro e w5 ⟨rfl, hb⟩
    have B5 := Lib.hid (bt B4.out hb)
    have X5 := Lib.hid (X4.out.below hb)
    replace HI1 := Lib.hid (HI1.out.later hb)
    replace HI2 := Lib.hid (HI2.out.later hb)
    clear hb B4 X4
    go_wp2_with fail
    refine (HRR.out _ B5.out).mono ?_
    rintro e w6 ⟨rfl, hb⟩
    have B6 := Lib.hid (bt B5.out hb)
    have X6 := Lib.hid (X5.out.below hb)
    replace HI1 := Lib.hid (HI1.out.later hb)
    replace HI2 := Lib.hid (HI2.out.later hb)
    clear hb B5 X5
    go_wp2_with fail
    refine (HLK.out _ B6.out).mono ?_
    rintro e w7 ⟨rfl, hb⟩
    have B7 := Lib.hid (bt B6.out hb)
    have X7 := Lib.hid (X6.out.below hb)
    replace HI1 := Lib.hid (HI1.out.later hb)
    replace HI2 := Lib.hid (HI2.out.later hb)
    clear hb B6 X6
    go_wp2_with fail
    refine (HSM.out _ B7.out).mono ?_
    rintro e w8 ⟨rfl, hb⟩
    have B8 := Lib.hid (bt B7.out hb)
    have X8 := Lib.hid (X7.out.below hb)
    replace HI1 := Lib.hid (HI1.out.later hb)
    replace HI2 := Lib.hid (HI2.out.later hb)
    clear hb B7 X7
    go_wp2_with fail
    refine (HLL.out _ B8.out).mono ?_
    rintro e w9 ⟨rfl, hb⟩
    have B9 := Lib.hid (bt B8.out hb)
    have X9 := Lib.hid (X8.out.below hb)
    replace HI1 := Lib.hid (HI1.out.later hb)
    replace HI2 := Lib.hid (HI2.out.later hb)
    clear hb B8 X8
    go_wp2_with fail
    refine (HAL.out _ B9.out).mono ?_
    rintro e w10 ⟨rfl, hb⟩
    have B10 := Lib.hid (bt B9.out hb)
    have X10 := Lib.hid (X9.out.below hb)
    replace HI1 := Lib.hid (HI1.out.later hb)
    replace HI2 := Lib.hid (HI2.out.later hb)
    clear hb B9 X9
    clear HRT HLK HSM HLL HAL
    go_wp2_with fail
    refine (HRR.out _ B10.out).mono ?_
    rintro e w11 ⟨rfl, hb⟩
    have B11 := Lib.hid (bt B10.out hb)
    have X11 := Lib.hid (X10.out.below hb)
    replace HI1 := Lib.hid (HI1.out.later hb)
    replace HI2 := Lib.hid (HI2.out.later hb)
    clear hb B10 X10
    clear HRR
    go_wp2_with fail
    refine (HAT.out _ B11.out).mono ?_
    rintro e w12 ⟨rfl, hb⟩
    have B12 := Lib.hid (bt B11.out hb)
    have X12 := Lib.hid (X11.out.below hb)
    replace HI1 := Lib.hid (HI1.out.later hb)
    replace HI2 := Lib.hid (HI2.out.later hb)
    clear hb B11 X11
    clear HAT
    by_cases hkk : hk
    · obtain ⟨rfl, rfl⟩ := HDN.out hkk
      have hz1 := HZ1.out hkk
      clear HDN HDO HZ1 HZ2
      go_wp2_with fail
      refine (HRD.out _ B12.out).mono ?_
      rintro e w13 ⟨C3, d3, rfl, hI3, hb⟩
      have B13 := Lib.hid (bt B12.out hb)
      have X13 := Lib.hid (X12.out.below hb)
      replace HI1 := Lib.hid (HI1.out.later hb)
      replace HI2 := Lib.hid (HI2.out.later hb)
      clear hb B12 X12
      have HI3 := Lib.hid hI3
      clear hI3
      have HSE := Lib.hid (HSD.out _ HDL.out C2 C3 d2 d3 w13 HI2.out HI3.out)
      go_wp2_with fail
      refine (HSE.out).mono ?_
      rintro e w14 ⟨rfl, hb⟩
      have B14 := Lib.hid (bt B13.out hb)
      have X14 := Lib.hid (X13.out.below hb)
      replace HI1 := Lib.hid (HI1.out.later hb)
      clear hb B13 X13
      clear HSE HI2 HI3 HDL HRD
      by_cases hv : N ≤ 64
      · by_cases h64 : n = 64
        · by_cases hh : hx
          · obtain ⟨rfl, rfl⟩ := HP3.out hv (.inl hh)
            subst h64
            have hz9 := HZ3.out hh
            have hz8 : ¬ zx < 0 := by omega
            have hv1 : ¬ (64 : Int) < (N : Int) := by omega
            clear HP1 HP2 HP3 HZ3 HZ4
            have k0 := X14.out.cell 0
            have k1 := X14.out.cell 1
            simp only [List.getElem?_toArray, List.getElem?_cons_zero, List.getElem?_cons_succ] at k0 k1
            go_wp2_with fail
            refine (HAX.out _ B14.out).mono ?_
            rintro e w15 ⟨rfl, hb⟩
            have B15 := Lib.hid (bt B14.out hb)
            have X15 := Lib.hid (X14.out.below hb)
            replace HI1 := Lib.hid (HI1.out.later hb)
            clear hb B14 X14 k0 k1
            have k0 := X15.out.cell 0
            have k1 := X15.out.cell 1
            simp only [List.getElem?_toArray, List.getElem?_cons_zero, List.getElem?_cons_succ] at k0 k1
            go_wp2_with fail
            refine (HRP.out _ B15.out).mono ?_
            rintro e w16 ⟨C5, d5, rfl, hI5, hb⟩
            have B16 := Lib.hid (bt B15.out hb)
            have X16 := Lib.hid (X15.out.below hb)
            replace HI1 := Lib.hid (HI1.out.later hb)
            clear hb B15 X15 k0 k1
            have HI5 := Lib.hid hI5
            clear hI5
            have HSP := Lib.hid (HSD.out _ HPL.out C1 C5 d1 d5 w16 HI1.out HI5.out)
            go_wp2_with fail
            refine (HSP.out).mono ?_
            rintro e w17 ⟨rfl, hb⟩
            have B17 := Lib.hid (bt B16.out hb)
            have X17 := Lib.hid (X16.out.below hb)
            clear hb B16 X16
            go_wp2
            go_ret
            exact ⟨rfl, B17.out⟩
          · obtain ⟨rfl, rfl⟩ := HP2.out hv h64 hh
            subst h64
            have hz9 := HZ4.out hh
            have hv1 : ¬ (64 : Int) < (N : Int) := by omega
            clear HP1 HP2 HP3 HZ3 HZ4
            have k0 := X14.out.cell 0
            have k1 := X14.out.cell 1
            simp only [List.getElem?_toArray, List.getElem?_cons_zero, List.getElem?_cons_succ] at k0 k1
            go_wp2_with fail
            refine (HAX.out _ B14.out).mono ?_
            rintro e w15 ⟨rfl, hb⟩
            have B15 := Lib.hid (bt B14.out hb)
            have X15 := Lib.hid (X14.out.below hb)
            replace HI1 := Lib.hid (HI1.out.later hb)
            clear hb B14 X14 k0 k1
            go_wp2
            go_ret
            exact ⟨rfl, B15.out⟩
        · obtain ⟨rfl, rfl⟩ := HP3.out hv (.inr h64)
          have h65 : ((n : Int) == 64) = false := by simp; omega
          have hv1 : ¬ (64 : Int) < (N : Int) := by omega
          clear HP1 HP2 HP3 HZ3 HZ4
          have k0 := X14.out.cell 0
          have k1 := X14.out.cell 1
          simp only [List.getElem?_toArray, List.getElem?_cons_zero, List.getElem?_cons_succ] at k0 k1
          go_wp2_with fail
          refine (HRP.out _ B14.out).mono ?_
          rintro e w15 ⟨C5, d5, rfl, hI5, hb⟩
          have B15 := Lib.hid (bt B14.out hb)
          have X15 := Lib.hid (X14.out.below hb)
          replace HI1 := Lib.hid (HI1.out.later hb)
          clear hb B14 X14 k0 k1
          have HI5 := Lib.hid hI5
          clear hI5
          have HSP := Lib.hid (HSD.out _ HPL.out C1 C5 d1 d5 w15 HI1.out HI5.out)
          go_wp2_with fail
          refine (HSP.out).mono ?_
          rintro e w16 ⟨rfl, hb⟩
          have B16 := Lib.hid (bt B15.out hb)
          have X16 := Lib.hid (X15.out.below hb)
          clear hb B15 X15
          go_wp2
          go_ret
          exact ⟨rfl, B16.out⟩
      · obtain ⟨rfl, rfl⟩ := HP1.out hv
        have hv1 : (64 : Int) < (N : Int) := by omega
        have k0 := X14.out.cell 0
        have k1 := X14.out.cell 1
        simp only [List.getElem?_toArray, List.getElem?_cons_zero, List.getElem?_cons_succ] at k0 k1
        clear HP1 HP2 HP3 HZ3 HZ4 HAX HRP HSD HPL
        go_wp2
        go_ret
        exact ⟨rfl, B14.out⟩
    · obtain ⟨rfl, rfl⟩ := HDO.out hkk
      have hz1 := HZ2.out hkk
      have hz2 : ¬ 0 ≤ z := by omega
      clear HDN HDO HZ1 HZ2 HI2 HDL HRD
      by_cases hv : N ≤ 64
      · by_cases h64 : n = 64
        · by_cases hh : hx
          · obtain ⟨rfl, rfl⟩ := HP3.out hv (.inl hh)
            subst h64
            have hz9 := HZ3.out hh
            have hz8 : ¬ zx < 0 := by omega
            have hv1 : ¬ (64 : Int) < (N : Int) := by omega
            clear HP1 HP2 HP3 HZ3 HZ4
            have k0 := X12.out.cell 0
            have k1 := X12.out.cell 1
            simp only [List.getElem?_toArray, List.getElem?_cons_zero, List.getElem?_cons_succ] at k0 k1
            go_wp2_with fail
            refine (HAX.out _ B12.out).mono ?_
            rintro e w13 ⟨rfl, hb⟩
            have B13 := Lib.hid (bt B12.out hb)
            have X13 := Lib.hid (X12.out.below hb)
            replace HI1 := Lib.hid (HI1.out.later hb)
            clear hb B12 X12 k0 k1
            have k0 := X13.out.cell 0
            have k1 := X13.out.cell 1
            simp only [List.getElem?_toArray, List.getElem?_cons_zero, List.getElem?_cons_succ] at k0 k1
            go_wp2_with fail
            refine (HRP.out _ B13.out).mono ?_
            rintro e w14 ⟨C5, d5, rfl, hI5, hb⟩
            have B14 := Lib.hid (bt B13.out hb)
            have X14 := Lib.hid (X13.out.below hb)
            replace HI1 := Lib.hid (HI1.out.later hb)
            clear hb B13 X13 k0 k1
            have HI5 := Lib.hid hI5
            clear hI5
            have HSP := Lib.hid (HSD.out _ HPL.out C1 C5 d1 d5 w14 HI1.out HI5.out)
            go_wp2_with fail
            refine (HSP.out).mono ?_
            rintro e w15 ⟨rfl, hb⟩
            have B15 := Lib.hid (bt B14.out hb)
            have X15 := Lib.hid (X14.out.below hb)
            clear hb B14 X14
            go_wp2
            go_ret
            exact ⟨rfl, B15.out⟩
          · obtain ⟨rfl, rfl⟩ := HP2.out hv h64 hh
            subst h64
            have hz9 := HZ4.out hh
            have hv1 : ¬ (64 : Int) < (N : Int) := by omega
            clear HP1 HP2 HP3 HZ3 HZ4
            have k0 := X12.out.cell 0
            have k1 := X12.out.cell 1
            simp only [List.getElem?_toArray, List.getElem?_cons_zero, List.getElem?_cons_succ] at k0 k1
            go_wp2_with fail
            refine (HAX.out _ B12.out).mono ?_
            rintro e w13 ⟨rfl, hb⟩
            have B13 := Lib.hid (bt B12.out hb)
            have X13 := Lib.hid (X12.out.below hb)
            replace HI1 := Lib.hid (HI1.out.later hb)
            clear hb B12 X12 k0 k1
            go_wp2
            go_ret
            exact ⟨rfl, B13.out⟩
        · obtain ⟨rfl, rfl⟩ := HP3.out hv (.inr h64)
          have h65 : ((n : Int) == 64) = false := by simp; omega
          have hv1 : ¬ (64 : Int) < (N : Int) := by omega
          clear HP1 HP2 HP3 HZ3 HZ4
          have k0 := X12.out.cell 0
          have k1 := X12.out.cell 1
          simp only [List.getElem?_toArray, List.getElem?_cons_zero, List.getElem?_cons_succ] at k0 k1
          go_wp2_with fail
          refine (HRP.out _ B12.out).mono ?_
          rintro e w13 ⟨C5, d5, rfl, hI5, hb⟩
          have B13 := Lib.hid (bt B12.out hb)
          have X13 := Lib.hid (X12.out.below hb)
          replace HI1 := Lib.hid (HI1.out.later hb)
          clear hb B12 X12 k0 k1
          have HI5 := Lib.hid hI5
          clear hI5
          have HSP := Lib.hid (HSD.out _ HPL.out C1 C5 d1 d5 w13 HI1.out HI5.out)
          go_wp2_with fail
          refine (HSP.out).mono ?_
          rintro e w14 ⟨rfl, hb⟩
          have B14 := Lib.hid (bt B13.out hb)
          have X14 := Lib.hid (X13.out.below hb)
          clear hb B13 X13
          go_wp2
          go_ret
          exact ⟨rfl, B14.out⟩
      · obtain ⟨rfl, rfl⟩ := HP1.out hv
        have hv1 : (64 : Int) < (N : Int) := by omega
        have k0 := X12.out.cell 0
        have k1 := X12.out.cell 1
        simp only [List.getElem?_toArray, List.getElem?_cons_zero, List.getElem?_cons_succ] at k0 k1
        clear HP1 HP2 HP3 HZ3 HZ4 HAX HRP HSD HPL
        go_wp2
        go_ret
        exact ⟨rfl, B12.out⟩
  · rw [decide_eq_false hr] at HRT HRR
    obtain ⟨p1, p2⟩ := iputE_bad (x := (xk, xs)) hr
    obtain ⟨q1, q2⟩ := idropE_bad (k := k) hr
    rw [p1, p2] at HPUT
    rw [q1, q2] at HDRP
    clear hA hB hl hml hT hr p1 p2 q1 q2 hz
    go_enter Tryd.func3, Tryd.ntmps3
    go_wp2_with fail
    refine (HF1.out _).mono ?_
    rintro e w1 ⟨rfl, hb⟩
    have B1 := Lib.hid (bt B0.out hb)
    have X1 := Lib.hid (X0.out.below hb)
    clear hb B0 X0
    go_wp2_with fail
    refine (HF2.out _).mono ?_
    rintro e w2 ⟨rfl, hb⟩
    have B2 := Lib.hid (bt B1.out hb)
    have X2 := Lib.hid (X1.out.below hb)
    clear hb B1 X1
    have k0 := X2.out.cell 0
    have k1 := X2.out.cell 1
    simp only [List.getElem?_toArray, List.getElem?_cons_zero, List.getElem?_cons_succ] at k0 k1
    go_wp2_with fail
    refine (HPUT.out _ B2.out).mono ?_
    rintro e w3 ⟨C1, d1, rfl, _, hI1, hb⟩
    have B3 := Lib.hid (bt B2.out hb)
    have X3 := Lib.hid (X2.out.below hb)
    clear hb B2 X2 k0 k1
    have HI1 := Lib.hid hI1
    clear hI1 HPUT HF1 HF2
    go_wp2_with fail
    refine (HDRP.out _ B3.out).mono ?_
    rintro e w4 ⟨C2, d2, rfl, _, hI2, hb⟩
    have B4 := Lib.hid (bt B3.out hb)
    have X4 := Lib.hid (X3.out.below hb)
    replace HI1 := Lib.hid (HI1.out.later hb)
    clear hb B3 X3
    have HI2 := Lib.hid hI2
    clear hI2 HDRP
    go_wp2_with fail
    refine (HRT.out _ B4.out).mono ?_
    rintro e w5 ⟨rfl, hb⟩
    have B5 := Lib.hid (bt B4.out hb)
    have X5 := Lib.hid (X4.out.below hb)
    replace HI1 := Lib.hid (HI1.out.later hb)
    replace HI2 := Lib.hid (HI2.out.later hb)
    clear hb B4 X4
    go_wp2_with fail
    refine (HRR.out _ B5.out).mono ?_
    rintro e w6 ⟨rfl, hb⟩
    have B6 := Lib.hid (bt B5.out hb)
    have X6 := Lib.hid (X5.out.below hb)
    replace HI1 := Lib.hid (HI1.out.later hb)
    replace HI2 := Lib.hid (HI2.out.later hb)
    clear hb B5 X5
    go_wp2_with fail
    refine (HLK.out _ B6.out).mono ?_
    rintro e w7 ⟨rfl, hb⟩
    have B7 := Lib.hid (bt B6.out hb)
    have X7 := Lib.hid (X6.out.below hb)
    replace HI1 := Lib.hid (HI1.out.later hb)
    replace HI2 := Lib.hid (HI2.out.later hb)
    clear hb B6 X6
    go_wp2_with fail
    refine (HSM.out _ B7.out).mono ?_
    rintro e w8 ⟨rfl, hb⟩
    have B8 := Lib.hid (bt B7.out hb)
    have X8 := Lib.hid (X7.out.below hb)
    replace HI1 := Lib.hid (HI1.out.later hb)
    replace HI2 := Lib.hid (HI2.out.later hb)
    clear hb B7 X7
    go_wp2_with fail
    refine (HLL.out _ B8.out).mono ?_
    rintro e w9 ⟨rfl, hb⟩
    have B9 := Lib.hid (bt B8.out hb)
    have X9 := Lib.hid (X8.out.below hb)
    replace HI1 := Lib.hid (HI1.out.later hb)
    replace HI2 := Lib.hid (HI2.out.later hb)
    clear hb B8 X8
    go_wp2_with fail
    refine (HAL.out _ B9.out).mono ?_
    rintro e w10 ⟨rfl, hb⟩
    have B10 := Lib.hid (bt B9.out hb)
    have X10 := Lib.hid (X9.out.below hb)
    replace HI1 := Lib.hid (HI1.out.later hb)
    replace HI2 := Lib.hid (HI2.out.later hb)
    clear hb B9 X9
    clear HRT HLK HSM HLL HAL
    go_wp2_with fail
    refine (HRR.out _ B10.out).mono ?_
    rintro e w11 ⟨rfl, hb⟩
    have B11 := Lib.hid (bt B10.out hb)
    have X11 := Lib.hid (X10.out.below hb)
    replace HI1 := Lib.hid (HI1.out.later hb)
    replace HI2 := Lib.hid (HI2.out.later hb)
    clear hb B10 X10
    clear HRR
    go_wp2
    go_ret
    exact ⟨rfl, B11.out⟩
end Go.Proofs.YtegojdblaanclaaDoor
/- The condition of stage 15's rows: what the library's table holds when the call begins; and a start that meets it. -/
namespace Go.Proofs.YtegojdblaanclaaDoor
open Go.ChangeShapes Go.WideShapes Go.ChangeAt Go.RowKit Go.Joins Go.Deep

/-- What the rows list. -/
def vlaid : List (String × DataW Unit) := [("math/bits.deBruijn64tab", Rows.laid_math_bits_deBruijn64tab)]
theorem vgTab : Tryd.prog.globalNamed "math/bits.deBruijn64tab" = some 0 := by kernel_rfl
theorem vtTab : (Tryd.prog.globals[0]?).map (·.type) = some 74 := by kernel_rfl
theorem vlaid_list : (Rows.laid_math_bits_deBruijn64tab : DataW Unit) = .agg (Lib.deBruijn64tab.map fun n : Nat => .lit (.int .u8 (n : Int))) := rfl
set_option maxRecDepth 100000 in
/-- The door's own heap meets the condition. -/
theorem vdoor_met (os : Os) (args : Array Value) : laidMetH Tryd.prog vlaid ((World.doorLaid Tryd.prog 14 os).forCall (fun _ _ => 0) ⟨#[], args, []⟩).memory :=
  laidMetH_of_parts3 (fuel := 8) (laidMet_of_run' 8 (by kernel_rfl) (by kernel_rfl)) (by kernel_rfl) (by kernel_rfl)
/-- What the condition gives the walks. -/
theorem vtab_of_laid {W : World} (h : laidMetH Tryd.prog vlaid W) : VTab W := by
  rw [MakeChecks.laidMetH_plain _ _ _ (by kernel_rfl)] at h
  obtain ⟨ps, ⟨g0, t0, cs0, f0, p0, q0, hg0, ht0, hv0, hd0, _⟩, _, _⟩ := h
  obtain rfl := Option.some.inj (vgTab.symm.trans hg0)
  obtain rfl := Option.some.inj (vtTab.symm.trans ht0)
  obtain ⟨xs, m1, rfl, hx1, hlen, hn, hel⟩ := DataW.trod_array Tryd.underlying74 hd0
  have c1 : Tryd.prog.cellsOf 5 = 1 := by kernel_rfl
  simp only [Prod.mk.injEq] at hx1
  have hx := hx1.1
  rw [vlaid_list] at hx
  injection hx with hx
  intro j hj
  have hej := hel j hj
  rw [c1, Nat.mul_one, List.getElem?_eq_getElem (show j < xs.length by omega)] at hej
  obtain ⟨k, e1, e2, _⟩ := DataW.trod_int Tryd.underlying5 hej
  have hk : k = (Lib.deBruijn64tab.getD j 0 : Nat) := by
    have h1 : (Lib.deBruijn64tab.map fun n : Nat => (DataW.lit (.int .u8 (n : Int)) : DataW Unit))[j]? = (xs.map (·.1))[j]? := by rw [hx]
    have h2 : j < Lib.deBruijn64tab.length := hj
    rw [List.getElem?_map, List.getElem?_map, List.getElem?_eq_getElem h2, List.getElem?_eq_getElem (show j < xs.length by omega), e2] at h1
    simp only [Option.map_some, Option.some.injEq, DataW.lit.injEq, Lit.int.injEq, true_and] at h1
    rw [← h1]
    simp [List.getD, h2]
  have hc := World.var?_cell hg0 hv0 j
  rw [hc, ← hk]
  have h3 : (cs0.toList.drop j)[0]? = some (.int .u8 k) := by
    have : ((cs0.toList.drop j).take 1)[0]? = some (.int .u8 k) := by rw [e1]; rfl
    rwa [List.getElem?_take, if_pos (by omega)] at this
  rw [List.getElem?_drop, Nat.add_zero, Array.getElem?_toList] at h3
  exact h3
end Go.Proofs.YtegojdblaanclaaDoor
/- A uint64 and a uint32 as natural numbers. Nothing of any function. -/
namespace Go.Proofs.YtegojdblaanclaaDoor
open Go.ChangeShapes Go.WideShapes Go.ChangeAt Go.RowKit Go.Joins Go.Deep

theorem u64_nat {n : Int} (h : (Lit.int .u64 n).wf = true) : ∃ m : Nat, n = (m : Int) ∧ m < 18446744073709551616 := by
  simp [Lit.wf] at h
  have h1 : IntKind.u64.min = 0 := by decide
  have h2 : IntKind.u64.max = 18446744073709551615 := by decide
  rw [h1, h2] at h
  exact ⟨n.toNat, by omega, by omega⟩
theorem u32_nat {n : Int} (h : (Lit.int .u32 n).wf = true) : ∃ m : Nat, n = (m : Int) ∧ m < 4294967296 := by
  simp [Lit.wf] at h
  have h1 : IntKind.u32.min = 0 := by decide
  have h2 : IntKind.u32.max = 4294967295 := by decide
  rw [h1, h2] at h
  exact ⟨n.toNat, by omega, by omega⟩
end Go.Proofs.YtegojdblaanclaaDoor
/- Items that came in as a parameter, opened. -/
namespace Go.Proofs.YtegojdblaanclaaDoor
open Go.ChangeShapes Go.WideShapes Go.ChangeAt Go.RowKit Go.Joins Go.Deep
section
variable {H : Type} {enc : TypeId × Value → H} {P : Program} {w : World} {base : Nat} {spare : Nat → Bool} {held : Bool}
theorem iopen_slice_fields {t e : TypeId} {fs : Array Field} {fuel : Nat} {cs : List Value} {x : DataW H × List MemPlace} (ht : P.underlying t = some (.slice e)) (he : P.underlying e = some (.struct fs))
    (hone : oneCellFields P fs = true) (hC : P.cellsOf e = fs.size) (h : DataW.trod enc P w base spare held fuel t cs = some x) :
    (cs = [.slice none 0 0] ∧ x = (.nil, [])) ∨
    ∃ (a : Addr) (len cap m : Nat) (D : Nat → DataW H) (Pl : Nat → List MemPlace), cs = [.slice (some a) len cap] ∧ base ≤ a.block ∧ len ≤ cap ∧ cap ≤ maxLen ∧ m = (if spare a.block then cap else len) ∧
      x = (.slice ((List.range len).map D) ((List.range (m - len)).map fun j => D (len + j)), MemPlace.row a (m * fs.size) ++ (List.range m).flatMap Pl) ∧
      ∀ i, i < m → ∃ (ys : List (DataW H × List MemPlace)) (n : Nat), D i = .agg (ys.map (·.1)) ∧ Pl i = ys.flatMap (·.2) ∧ ys.length = fs.size ∧
        ∀ (j : Nat) (f : Field), fs[j]? = some f → ∃ (v : Value) (y : DataW H × List MemPlace), w.cell? (a.add (i * fs.size + j)) = some v ∧ ys[j]? = some y ∧ DataW.trod enc P w base spare held n f.type [v] = some y := by
  rcases open_slice ht h with h0 | ⟨a, len, cap, m, n, D, Pl, hcs, hb, hl, hm, hmm, hx, hi⟩
  · exact .inl h0
  · refine .inr ⟨a, len, cap, m, D, Pl, hcs, hb, hl, hm, hmm, by rw [hC] at hx; exact hx, fun i him => ?_⟩
    obtain ⟨cs', hc, ht'⟩ := hi i him
    rw [hC] at hc
    obtain ⟨ys, n', hn', hy, hlen, hyl, hf⟩ := DataW.trod_struct he ht'
    obtain ⟨_, hcl, hat⟩ := World.cells?_some hc
    simp only [Prod.mk.injEq] at hy
    refine ⟨ys, n', hy.1, hy.2, hyl, fun j f hj => ?_⟩
    obtain ⟨ho, hk⟩ := hone_of hone j f hj
    have hjl : j < fs.size := (Array.getElem?_eq_some_iff.1 hj).1
    have hcell := hat j hjl
    have hv : cs'[j]? = some (cs'[j]'(by omega)) := List.getElem?_eq_getElem (by omega)
    have h1 := hf j f hj
    rw [ho, hk] at h1
    have hone' : (cs'.drop j).take 1 = [cs'[j]'(by omega)] := by
      rw [List.drop_eq_getElem_cons (by omega)]
      rfl
    rw [hone'] at h1
    have hys : ys[j]? = some (ys[j]'(by omega)) := List.getElem?_eq_getElem (by omega)
    refine ⟨_, _, ?_, hys, h1.trans hys⟩
    rw [← Go.Deep.add_add, hcell, hv]
end

theorem ilist_of {α : Type} {Q : Nat → α → Prop} (n : Nat) (h : ∀ i, i < n → ∃ p, Q i p) : ∃ L : List α, L.length = n ∧ ∀ i (hi : i < L.length), Q i L[i] := by
  induction n with
  | zero => exact ⟨[], rfl, fun i hi => absurd hi (Nat.not_lt_zero i)⟩
  | succ n ih =>
    obtain ⟨L, hl, hq⟩ := ih (fun i hi => h i (by omega))
    obtain ⟨p, hp⟩ := h n (by omega)
    refine ⟨L ++ [p], by simp [hl], fun i hi => ?_⟩
    rw [List.getElem_append]
    split
    · exact hq i (by assumption)
    · have : i = n := by simp at hi; omega
      subst this
      simpa using hp
theorem cellsI : Tryd.prog.cellsOf 25 = 2 := by kernel_rfl

set_option maxRecDepth 100000 in
theorem open_items_in {H : Type} {enc : TypeId × Value → H} {W : World} {base fuel : Nat} {sp : Nat → Bool} {x : Value} {y : DataW H × List MemPlace}
    (hf : DataW.trod enc Tryd.prog W base sp true fuel 22 [x] = some y) :
    ∃ (A : Option Addr) (cap : Nat) (L : List ItL), x = .slice A L.length cap ∧ L.length ≤ cap ∧ IR W A L ∧ ∀ x ∈ L, x.1 < 18446744073709551616 := by
  rcases iopen_slice_fields Tryd.underlying22 Tryd.underlying25 (by kernel_rfl) cellsI hf with ⟨hcs, _⟩ | ⟨a, len, cap, m, D, Pl, hcs, _, hle, hcap, hm, _, hi⟩
  · exact ⟨none, 0, [], by simpa using hcs, Nat.le_refl _, IR.nil _ _, by simp⟩
  · have hml : len ≤ m := by rw [hm]; split <;> omega
    obtain ⟨L, hL, hq⟩ := ilist_of (Q := fun i (q : ItL) => W.cell? (a.add (i * 2)) = some (vu q.1) ∧ W.cell? (a.add (i * 2 + 1)) = some (sv q.2) ∧ q.1 < 18446744073709551616) len (fun i hil => by
      obtain ⟨ys, n, _, _, _, hff⟩ := hi i (by omega)
      obtain ⟨u0, y0, c0, _, t0⟩ := hff 0 _ rfl
      obtain ⟨u1, y1, c1, _, t1⟩ := hff 1 _ rfl
      obtain ⟨x, e0, _, wx⟩ := DataW.trod_int Tryd.underlying23 t0
      obtain ⟨s, e1, _, ws⟩ := DataW.trod_string Tryd.underlying9 t1
      simp at e0 e1
      subst e0 e1
      obtain ⟨l, rfl, hl⟩ := str_list s
      obtain ⟨m, rfl, hlt⟩ := u64_nat wx
      exact ⟨(m, l), c0, c1, hlt⟩)
    refine ⟨some a, cap, L, by rw [hL]; simpa using hcs, by omega, fun j hj => ?_, fun x hx => ?_⟩
    · obtain ⟨q0, q1, _⟩ := hq j hj
      obtain ⟨g, off, s⟩ := a
      have hs : s = none := by
        have := (hq 0 (by omega)).1
        simpa [Addr.add] using World.cell?_spot this
      subst hs
      rw [Go.WideShapes.add_plain] at q0 q1
      rw [← Nat.add_assoc] at q1
      have e : L.getD j (0, []) = L[j] := by simp [List.getD, hj]
      rw [e]
      exact ⟨g, off, rfl, q0, q1⟩
    · obtain ⟨j, hj, rfl⟩ := List.getElem_of_mem hx
      exact (hq j hj).2.2
set_option maxRecDepth 100000 in
theorem open_items {H : Type} {enc : TypeId × Value → H} {W : World} {base : Nat} {sp : Nat → Bool} {r : Reach} {b0 : Nat} {v : Value} {d : DataW H} {p : List MemPlace}
    (hv : Value.okWide Tryd.prog W r b0 22 v) (h : DataW.Trod enc Tryd.prog W base sp true 22 v d p) :
    ∃ (A : Option Addr) (cap : Nat) (L : List ItL), v = .slice A L.length cap ∧ L.length ≤ cap ∧ IR W A L ∧ ∀ x ∈ L, x.1 < 18446744073709551616 := by
  obtain ⟨a0, len0, cap0, rfl⟩ := okWide_slice Tryd.underlying22 hv
  obtain ⟨fuel, hf⟩ := h
  exact open_items_in (by simpa [Value.cells] using hf)
set_option maxRecDepth 100000 in
theorem open_item {H : Type} {enc : TypeId × Value → H} {W : World} {base : Nat} {sp : Nat → Bool} {r : Reach} {b0 : Nat} {v : Value} {d : DataW H} {p : List MemPlace}
    (hv : Value.okWide Tryd.prog W r b0 25 v) (h : DataW.Trod enc Tryd.prog W base sp true 25 v d p) :
    ∃ (k : Nat) (s : List UInt8), v = .agg #[.int .u64 (k : Int), sv s] ∧ k < 18446744073709551616 := by
  obtain ⟨cs, rfl, hcs⟩ := okWide_struct Tryd.underlying25 hv
  obtain ⟨fuel, hf⟩ := h
  rw [cellsI] at hcs
  obtain ⟨x, y, rfl⟩ : ∃ x y, cs = #[x, y] := by
    obtain ⟨l⟩ := cs
    match l, hcs with
    | [x, y], _ => exact ⟨x, y, rfl⟩
  obtain ⟨y0, y1, n, _, _, t0, t1⟩ := trod_struct2 Tryd.underlying25 hf
  have e0 : Tryd.prog.cellsOf 23 = 1 := by kernel_rfl
  have e1 : Tryd.prog.cellsOf 9 = 1 := by kernel_rfl
  simp only [e0] at t0
  simp only [e1] at t1
  obtain ⟨k, h0, _, wx⟩ := DataW.trod_int Tryd.underlying23 (by simpa [Value.cells] using t0)
  obtain ⟨s, h1, _, ws⟩ := DataW.trod_string Tryd.underlying9 (by simpa [Value.cells] using t1)
  simp at h0 h1
  subst h0 h1
  obtain ⟨l, rfl, hl⟩ := str_list s
  obtain ⟨m, rfl, hlt⟩ := u64_nat wx
  exact ⟨m, l, rfl, hlt⟩
end Go.Proofs.YtegojdblaanclaaDoor
/- The contracts of the reference's Heights and Above: rows that grow. -/
namespace Go.Proofs.YtegojdblaanclaaDoor
open Go.RowKit

/-- The places, rising, of the first so many numbers whose height is more than a level. -/
def abL (k : List UInt8) (L : List Nat) (lev : Int) (j : Nat) : List Nat := (List.range j).filter fun i => decide (lev < (hL k (L.getD i 0) : Int))
theorem abL_zero (k : List UInt8) (L : List Nat) (lev : Int) : abL k L lev 0 = [] := rfl
theorem abL_yes {k : List UInt8} {L : List Nat} {lev : Int} {j : Nat} (h : lev < (hL k (L.getD j 0) : Int)) : abL k L lev (j + 1) = abL k L lev j ++ [j] := by
  simp only [abL, List.range_succ, List.filter_append, List.filter_cons, List.filter_nil]
  rw [if_pos (by simpa using h)]
theorem abL_no {k : List UInt8} {L : List Nat} {lev : Int} {j : Nat} (h : ¬ lev < (hL k (L.getD j 0) : Int)) : abL k L lev (j + 1) = abL k L lev j := by
  simp only [abL, List.range_succ, List.filter_append, List.filter_cons, List.filter_nil]
  rw [if_neg (by simpa using h), List.append_nil]
theorem abL_len (k : List UInt8) (L : List Nat) (lev : Int) (j : Nat) : (abL k L lev j).length ≤ j := by
  have := List.length_filter_le (fun i => decide (lev < (hL k (L.getD i 0) : Int))) (List.range j)
  rwa [List.length_range] at this

set_option maxRecDepth 100000 in
set_option maxHeartbeats 4000000 in
theorem vrheights_any (k : List UInt8) (A : Option Addr) (n c : Nat) (L : List Nat) (w : World) (hk : k.length ≤ 60000) (hA : VR vu w A L) (hl : L.length = n) (hx : ∀ x ∈ L, x < 18446744073709551616) (hn : n ≤ 65536) :
    Calls Tryd.prog 30 #[.string ⟨k.toArray⟩, .slice A n c] w fun e w' => ∃ g c', e = .returned (.slice (some ⟨g, 0, none⟩) n c') ∧ w'.ownsRow w.heap.size 3 1 (.slice (some ⟨g, 0, none⟩) n c') n ((hsL k L).map vi) ∧ Below w.heap.size w w' := by
  obtain ⟨ti, hti, hz0, hz1, hz2⟩ := info_parts infoVI
  have HH := Lib.hid (fun j W (hj : j < n) => by
    have := vrheight_any k (L.getD j 0) W hk (hx _ (by rw [List.getD, List.getElem?_eq_getElem (by omega)]; exact List.getElem_mem _))
    rwa [← hsL_at k L j (by omega)] at this)
  have HR := Lib.hid (fun j W (hj : j < n) (hb : Below w.heap.size w W) => (hA.later hb) j (by omega))
  have HTl : Hid ((hsL k L).length = n) := Lib.hid (by rw [hsL_len, hl])
  clear hA hx hl hk
  generalize hsL k L = T at *
  have HTS : Hid (∀ j, j < n → (T.take (j + 1)).map vi = (T.take j).map vi ++ [vi (T.getD j 0)]) := Lib.hid (fun j hj => by
    rw [List.take_add_one, List.map_append]
    have : j < T.length := by rw [HTl.out]; exact hj
    simp [List.getD, this])
  have HO : Hid ((w.alloc (.cells #[] 3)).ownsRow w.heap.size 3 1 (.slice (some ⟨w.heap.size, 0, none⟩) 0 0) 0 ((T.take 0).map vi)) := Lib.hid (own_nil (Blk.new w _ _) (Nat.le_refl _))
  have HB : Hid (Below w.heap.size w (w.alloc (.cells #[] 3))) := Lib.hid (ba (Below.refl _ _) _)
  go_enter Tryd.func30, Tryd.ntmps30
  go_upto_region 2 with fail
  generalize w.alloc (.cells #[] 3) = w1 at *
  go_wp2_with fail
  go_loopw [5, 11] (fun ov iv wr => ∃ (j g5 c5 : Nat), j ≤ n ∧ iv = .int .i64 (j : Int) ∧ ov = .slice (some ⟨g5, 0, none⟩) j c5 ∧ Hid (wr.ownsRow w.heap.size 3 1 (.slice (some ⟨g5, 0, none⟩) j c5) j ((T.take j).map vi)) ∧ Hid (Below w.heap.size w wr)) (fun _ i _ => n - (intOf i).toNat)
  case atStart => exact ⟨0, w.heap.size, 0, Nat.zero_le _, rfl, rfl, HO, HB⟩
  case round =>
    clear HB HO
    obtain ⟨j, g5, c5, hj, rfl, rfl, HO, HB⟩ := hrel
    by_cases hlt : j < n
    · obtain ⟨g, off, rfl, c0⟩ := HR.out j wr hlt HB.out
      have HHj := Lib.hid (fun W => HH.out j W hlt)
      have HTj := Lib.hid (HTS.out j hlt)
      generalize T.getD j 0 = x at HHj HTj
      generalize L.getD j 0 = y at c0 HHj
      have i0 : (0 : Int) ≤ (j : Int) := by omega
      have i1 : (j : Int) < (n : Int) := by omega
      go_wp2_with fail
      refine (HHj.out _).mono ?_
      rintro e2 w2 ⟨rfl, hb2⟩
      have W2 := Lib.hid (own_later HO.out hb2)
      have B2 := Lib.hid (bt HB.out hb2)
      clear hb2 HO HB
      have hownA := W2.out.alloc (.cells #[vi x] 3)
      have hnews := World.news_of_block (heap_alloc_new w2 (.cells #[vi x] 3))
      have B3 := Lib.hid (ba B2.out (.cells #[vi x] 3))
      go_wp2_with (at_builtin; refine wpList_append_own _ rfl _ _ 52 rfl w.heap.size 3 ti _ 1 8 Tryd.underlying52 hti hz0 hz1 hz2 rfl (by decide) _ _ _ rfl hownA ⟨w2.heap.size, 0, none⟩ 1 1 [vi x] rfl rfl hnews (by simp [Value.oneCell']) (by unfold maxLen; omega) (by omega) (by have := B3.out.size; exact this) ?_; intro v4 w5 hown5 hgrow5 _; obtain ⟨g6, c6, rfl⟩ := ownsRow_succ hown5)
      have B5 := Lib.hid (B3.out.grown hgrow5 B3.out.size (fun k e => by have := (hownA.lt k e).1; omega))
      rw [← HTj.out] at hown5
      have W5 := Lib.hid hown5
      clear hown5 hgrow5 hnews hownA
      go_wp2_with fail
      exact ⟨⟨j + 1, g6, c6, by omega, by go_num, rfl, W5, B5⟩, by simp [intOf]; omega⟩
    · obtain rfl : j = n := by omega
      have HTA : Hid (T.take j = T) := Lib.hid (by rw [← HTl.out, List.take_length])
      rw [HTA.out] at HO
      go_wp2
      go_ret
      exact ⟨_, _, rfl, HO.out, HB.out⟩

end Go.Proofs.YtegojdblaanclaaDoor
