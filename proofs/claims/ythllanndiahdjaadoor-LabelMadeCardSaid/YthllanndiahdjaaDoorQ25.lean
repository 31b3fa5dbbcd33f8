/- Texts of this seat, one behind the other: YLawM. -/
import Derived.Deep.QuietTactic
import Derived.Test.YthllanndiahdjaaDoorQ19
import Derived.Test.YthllanndiahdjaaDoorQ24
/- The walk of LabelMade. -/
namespace Go.Proofs.YthllanndiahdjaaDoor
open Go.RowKit

set_option maxRecDepth 100000 in
set_option maxHeartbeats 32000000 in
theorem ylawM_any (k0 : List UInt8) (A : Option Addr) (c xk yk : Nat) (xs ys : List UInt8) (L0 : List ItL) (w : World) (hA0 : IR w A L0) (hc0 : L0.length ≤ c) (hx0 : ∀ x ∈ L0, x.1 < 18446744073709551616) (hxk : xk < 18446744073709551616) (hyk : yk < 18446744073709551616) (hT0 : VTab w) :
    Calls Tryd.prog 5 #[.string ⟨k0.toArray⟩, .slice A L0.length c, .agg #[.int .u64 (xk : Int), sv xs], .agg #[.int .u64 (yk : Int), sv ys]] w fun e w' => e = .returned (.bool true) ∧ Below w.heap.size w w' := by
  have hz0 := size_mk k0
  obtain ⟨N, hN⟩ : ∃ N, k0.length = N := ⟨_, rfl⟩
  obtain ⟨M, hM⟩ : ∃ M, L0.length = M := ⟨_, rfl⟩
  rw [hN] at hz0
  rw [hM] at hc0 ⊢
  obtain ⟨a, ha⟩ : ∃ a, min N 80 = a := ⟨_, rfl⟩
  obtain ⟨n, hn⟩ : ∃ n, min M 12 = n := ⟨_, rfl⟩
  have hex := extract_take k0 a
  have hkl : (k0.take a).length ≤ 60000 := by rw [List.length_take]; omega
  have hl9 : (L0.take n).length = n := by rw [List.length_take]; omega
  have hA : IR w A (L0.take n) := hA0.take n
  have hx9 : ∀ x ∈ L0.take n, x.1 < 18446744073709551616 := fun x hx => hx0 x (List.mem_of_mem_take hx)
  have h1 : (a : Int) ≤ (N : Int) := by omega
  have h2 : min (N : Int) 80 = (a : Int) := by omega
  have h3 : a ≤ N := by omega
  have h4 : min (M : Int) 12 = (n : Int) := by omega
  have hsl := icut_run A M c n (by omega)
  have hn12 : n ≤ 12 := by omega
  have hc : n ≤ c := by omega
  clear hA0 ha hn hN hM hx0
  generalize L0.take n = L at *
  generalize k0.take a = key at *
  have X0 : Blk ((w.alloc (.cells #[.int .u64 (xk : Int), sv xs] 24)).alloc (.cells #[.int .u64 (yk : Int), sv ys] 24)) w.heap.size 24 #[.int .u64 (xk : Int), sv xs] := (Blk.new w _ _).alloc _
  have Y0 : Blk ((w.alloc (.cells #[.int .u64 (xk : Int), sv xs] 24)).alloc (.cells #[.int .u64 (yk : Int), sv ys] 24)) (w.heap.size + 1) 24 #[.int .u64 (yk : Int), sv ys] := Blk.newAt (by simp) _ _
  have B0 := ba (ba (Below.refl w.heap.size w) (.cells #[.int .u64 (xk : Int), sv xs] 24)) (.cells #[.int .u64 (yk : Int), sv ys] 24)
  go_enter Tryd.func5, Tryd.ntmps5
  go_wp2_with fail
  generalize (w.alloc (.cells #[.int .u64 (xk : Int), sv xs] 24)).alloc (.cells #[.int .u64 (yk : Int), sv ys] 24) = w00 at X0 Y0 B0 ⊢
  go_quiet (fail)
  have X1 : Blk (w00.drewN nq) w.heap.size 24 #[.int .u64 (xk : Int), sv xs] := X0
  have Y1 : Blk (w00.drewN nq) (w.heap.size + 1) 24 #[.int .u64 (yk : Int), sv ys] := Y0
  have B1 := below_drewN B0 nq
  generalize w00.drewN nq = w1 at X1 Y1 B1 ⊢
  have HX := Lib.hid (fun W (hb : Below w1.heap.size w1 W) => And.intro ((X1.below hb).cell 0) ((X1.below hb).cell 1))
  have HY := Lib.hid (fun W (hb : Below w1.heap.size w1 W) => And.intro ((Y1.below hb).cell 0) ((Y1.below hb).cell 1))
  simp only [List.getElem?_toArray, List.getElem?_cons_zero, List.getElem?_cons_succ] at HX HY
  have HB1 := Lib.hid B1
  have hT := hT0.later B1
  have hA1 := hA.later B1
  clear X0 Y0 B0 X1 Y1 B1 hT0 hA hsl hex hz0 h1 h2 h3 h4 hc0
  have HAL := Lib.hid (fun W (hb : Below w1.heap.size w1 W) => yalive_any W (hT.later hb))
  have HRT := Lib.hid (fun W (hb : Below w1.heap.size w1 W) => yRoot_any key A n c L W hkl (hA1.later hb) hl9 (by omega) hx9 (hT.later hb))
  by_cases hr : IRt L
  · obtain ⟨e1, e2⟩ := ymade_root key hr
    rw [e1, e2] at HRT
    have HRO := Lib.hid (fun j W (hj : j ≤ 8) (hb : Below w1.heap.size w1 W) => yRow_yes key A n c j L W hj hkl (hA1.later hb) hl9 hx9 hr (hT.later hb))
    have HLB := Lib.hid (fun j B d W (hS : SR W B (yrowL key L j)) => ylabels_any B (yrowL key L j).length d (yrowL key L j) W hS rfl (by have := yrowL_le key L j; omega))
    have HNO := Lib.hid (yrowL_no key L)
    have HLE := Lib.hid (ylast_le key L n hl9)
    have HPO := Lib.hid (fun j (hj : j ≤ 8) => yrowL_pos key L j hj)
    have HL8 := Lib.hid (yrow_last key L)
    have HLM : Hid (∀ j, (yrowL key L j).length ≤ 13) := Lib.hid fun j => by have := yrowL_le key L j; omega
    have HPL0 : Hid (ylast key L n 0 = n + 1) := Lib.hid rfl
    have HPLS : Hid (∀ j, ylast key L n (j + 1) = (yrowL key L j).length) := Lib.hid fun _ => rfl
    have HSV : Hid (yrootRes key L = yroot key L) := Lib.hid e2
    -- what is put and dropped
    have HPX := Lib.hid (fun W (hb : Below w1.heap.size w1 W) => iput_any A n c xk xs L W (hA1.later hb) hl9 hc (by omega))
    have HPY := Lib.hid (fun W (hb : Below w1.heap.size w1 W) => iput_any A n c yk ys L W (hA1.later hb) hl9 hc (by omega))
    have HKE : Hid (IRt L ∧ L.length = n ∧ (∀ x ∈ L, x.1 < 18446744073709551616) ∧ key.length ≤ 60000 ∧ VTab w1) := Lib.hid ⟨hr, hl9, hx9, hkl, hT⟩
    clear e1 e2 hr hl9 hx9 hkl hT hA1
    generalize ylast key L n = pl at *
    go_wp2_with fail
    refine (HRT.out _ (Below.refl _ _)).mono ?_
    rintro e w2 ⟨rfl, hb⟩
    have B2 := Lib.hid hb
    clear hb HRT
    have hn1 : IntKind.i64.wrap ((n : Int) + 1) = (n : Int) + 1 := by rw [IntKind.wrap_i64]; omega
    go_wp2_with fail
    go_loopw [11, 54] (fun pv iv wr => ∃ j : Nat, j ≤ 9 ∧ iv = .int .i64 (j : Int) ∧ pv = .int .i64 (pl j : Int) ∧ Hid (Below w1.heap.size w1 wr)) (fun _ i _ => 9 - (intOf i).toNat)
    case atStart => exact ⟨0, by omega, rfl, by rw [HPL0.out]; rfl, B2⟩
    case round =>
      clear B2 hn1
      obtain ⟨j, hj, rfl, rfl, HB⟩ := hrel
      by_cases hlt : j < 9
      · have i1 : (j : Int) < 9 := by omega
        have TR := Lib.hid (HRO.out j wr (by omega) HB.out)
        have hle := HLE.out j
        have hpo := HPO.out j (by omega)
        have hlm := HLM.out j
        have hps := HPLS.out j
        have TB := Lib.hid (fun B d W hS => HLB.out j B d W hS)
        have TN := Lib.hid (HNO.out j)
        by_cases h8 : j = 8
        · subst h8
          rw [HL8.out] at TR TB TN
          -- eight
          have TN1 := TN.out
          have hle1 : 1 ≤ pl 8 := by rw [HL8.out] at hle; exact hle
          have hps1 : pl 9 = 1 := by rw [HL8.out] at hps; exact hps
          generalize yroot key L = t at *
          have d8 : (((8 : Nat) : Int) == 8) = true := rfl
          have d1 : decide ((pl 8 : Int) < 1) = false := by simp; omega
          have d1' : ¬ (pl 8 : Int) < 1 := by omega
          have HPJ := Lib.hid hps1
          clear hle hpo hps HRO HLB HNO HLE HPO HLM HPLS hle1 hps1
          go_wp2_with fail
          refine TR.out.mono ?_
          rintro e w3 ⟨B, d, rfl, hS, hb⟩
          have TB1 := Lib.hid (TB.out B d w3 hS)
          obtain ⟨g, off, rfl, c0⟩ := hS 0 (by simp)
          rw [Nat.add_zero] at c0
          simp only [List.getD_cons_zero] at c0
          have B3 := Lib.hid (bt HB.out hb)
          clear hS hb
          go_wp2_with fail
          refine TB1.out.mono ?_
          rintro e w4 ⟨b, rfl, hbb, rfl⟩
          obtain rfl : b = true := by
            cases b with
            | true => rfl
            | false => exact absurd (hbb.1 rfl) TN1
          clear hbb TB1 TN1
          go_wp2_with fail
          exact ⟨⟨9, by omega, by rfl, by rw [HPJ.out]; rfl, B3⟩, by simp [intOf]⟩
          -- end eight
        · have d8 : ((j : Int) == 8) = false := by simp; omega
          generalize yrowL key L j = T at *
          obtain ⟨m, hm⟩ : ∃ m, T.length = m := ⟨_, rfl⟩
          rw [hm] at TR TB hle hpo hlm hps
          have d1 : decide ((pl j : Int) < (m : Int)) = false := by simp; omega
          have d1' : ¬ (pl j : Int) < (m : Int) := by omega
          have d2 : ((m : Int) == 0) = false := by simp; omega
          have HPJ := Lib.hid hps
          clear hle hpo hps HRO HLB HNO HLE HPO HLM HPLS
          go_wp2_with fail
          refine TR.out.mono ?_
          rintro e w3 ⟨B, d, rfl, hS, hb⟩
          have TB1 := Lib.hid (TB.out B d w3 hS)
          have B3 := Lib.hid (bt HB.out hb)
          clear hS hb
          go_wp2_with fail
          refine TB1.out.mono ?_
          rintro e w4 ⟨b, rfl, hbb, rfl⟩
          obtain rfl : b = true := by
            cases b with
            | true => rfl
            | false => exact absurd (hbb.1 rfl) TN.out
          clear hbb TB1
          go_wp2_with fail
          exact ⟨⟨j + 1, by omega, by go_num, by rw [HPJ.out], B3⟩, by simp [intOf]; omega⟩
      · obtain rfl : j = 9 := by omega
        -- done
        obtain ⟨hr, hl9, hx9, hkl, hT⟩ := HKE.out
        have B3 := HB
        clear HB HRO HLB HNO HLE HPO HL8 HLM HPL0 HPLS HSV hlt
        by_cases hxs : xs.length ≤ 64
        · have px := iputE_yes (x := (xk, xs)) hr hxs (.inr (by omega))
          rw [px.1, px.2] at HPX
          by_cases hys : ys.length ≤ 64
          · have py := iputE_yes (x := (yk, ys)) hr hys (.inr (by omega))
            rw [py.1, py.2] at HPY
            by_cases hk : xk = yk
            · -- one number
              subst hk
              clear px py hr hl9 hx9 hkl hT hxs hys HKE
              obtain ⟨x0_3, x1_3⟩ := HX.out _ B3.out
              go_wp2_with fail
              refine (HPX.out _ B3.out).mono ?_
              rintro e w4 ⟨P, pd, rfl, hpd, hP, hb⟩
              have B4 := Lib.hid (bt B3.out hb)
              clear hb hP x0_3 x1_3
              obtain ⟨y0_4, y1_4⟩ := HY.out _ B4.out
              go_wp2_with fail
              refine (HPY.out _ B4.out).mono ?_
              rintro e w5 ⟨Q, qd, rfl, hqd, hQ, hb⟩
              have B5 := Lib.hid (bt B4.out hb)
              clear hb hQ y0_4 y1_4
              obtain ⟨x0_5, x1_5⟩ := HX.out _ B5.out
              obtain ⟨y0_5, y1_5⟩ := HY.out _ B5.out
              have dk : ((xk : Int) == (xk : Int)) = true := by simp
              go_wp2_with fail
              refine (HAL.out _ B5.out).mono ?_
              rintro e w6 ⟨rfl, hb⟩
              have B6 := Lib.hid (bt B5.out hb)
              clear hb x0_5 x1_5 y0_5 y1_5
              go_wp2
              go_ret
              exact ⟨rfl, HB1.out.trans (Below.mono B6.out HB1.out.size)⟩
            · -- two numbers
              have hne : ((xk, xs) : ItL).1 ≠ ((yk, ys) : ItL).1 := hk
              have e2 := iput_two (x := (xk, xs)) (y := (yk, ys)) hr.up hne
              have eb := ymade_back (x := (xk, xs)) (y := (yk, ys)) hr.up
              have r1 := irt_put (x := (xk, xs)) hr hxs (.inr (by omega))
              have r1' := irt_put (x := (yk, ys)) hr hys (.inr (by omega))
              have l1 := iput_len (L := L) (xk, xs)
              have l1' := iput_len (L := L) (yk, ys)
              have p2 := iputE_yes (x := (yk, ys)) r1 hys (.inr (by omega))
              have q2 := iputE_yes (x := (xk, xs)) r1' hxs (.inr (by omega))
              rw [← e2] at q2
              have r2 := irt_put (x := (yk, ys)) r1 hys (.inr (by omega))
              have l2 := iput_len (L := iput L (xk, xs)) (yk, ys)
              have x2 := ymade_lt (x := (yk, ys)) (ymade_lt (x := (xk, xs)) hx9 hxk) hyk
              have h1 : ihas (iput (iput L (xk, xs)) (yk, ys)) xk := ihas_keep (ihas_put (xk, xs)) (fun e => hk e.symm)
              have h2 : ihas (idrop (iput (iput L (xk, xs)) (yk, ys)) xk) yk := ihas_drop (ihas_put (yk, ys)) (fun e => hk e.symm)
              have d1 := idropE_yes r2 h1
              have r3 : IRt (idrop (iput (iput L (xk, xs)) (yk, ys)) xk) := irt_drop r2
              have d2 := idropE_yes r3 h2
              have r4 : IRt (idrop (idrop (iput (iput L (xk, xs)) (yk, ys)) xk) yk) := irt_drop r3
              have x4 : ∀ z ∈ idrop (idrop (iput (iput L (xk, xs)) (yk, ys)) xk) yk, z.1 < 18446744073709551616 := ymade_drop (ymade_drop x2)
              have l3 : (idrop (iput (iput L (xk, xs)) (yk, ys)) xk).length ≤ 14 := by have := List.length_filter_le (fun z : ItL => decide (z.1 ≠ xk)) (iput (iput L (xk, xs)) (yk, ys)); rw [idrop]; omega
              have l4 : (idrop (idrop (iput (iput L (xk, xs)) (yk, ys)) xk) yk).length ≤ 14 := by have := List.length_filter_le (fun z : ItL => decide (z.1 ≠ yk)) (idrop (iput (iput L (xk, xs)) (yk, ys)) xk); rw [idrop]; omega
              generalize hP1 : iput L (xk, xs) = P1 at *
              generalize hQ1 : iput L (yk, ys) = Q1 at *
              generalize hP2 : iput P1 (yk, ys) = P2 at *
              generalize hD1 : idrop P2 xk = D1 at *
              generalize hD2 : idrop D1 yk = D2 at *
              have HPP := Lib.hid (fun B d W (hB : IR W B P1) (hd : P1.length ≤ d) => iput_any B P1.length d yk ys P1 W hB rfl hd (by omega))
              rw [p2.1, p2.2] at HPP
              have HQQ := Lib.hid (fun B d W (hB : IR W B Q1) (hd : Q1.length ≤ d) => iput_any B Q1.length d xk xs Q1 W hB rfl hd (by omega))
              rw [q2.1, q2.2] at HQQ
              have HRP := Lib.hid (fun B d W (hB : IR W B P2) (hb : Below w1.heap.size w1 W) => yRoot_any key B P2.length d P2 W hkl hB rfl (by omega) x2 (hT.later hb))
              rw [(ymade_root key r2).1, (ymade_root key r2).2] at HRP
              have HDX := Lib.hid (fun B d W (hB : IR W B P2) (hd : P2.length ≤ d) => idrop_any B P2.length d xk P2 W hB rfl hd (by omega))
              rw [d1.1, d1.2] at HDX
              have HDY := Lib.hid (fun B d W (hB : IR W B D1) (hd : D1.length ≤ d) => idrop_any B D1.length d yk D1 W hB rfl hd (by omega))
              rw [d2.1, d2.2] at HDY
              have HRD := Lib.hid (fun B d W (hB : IR W B D2) (hb : Below w1.heap.size w1 W) => yRoot_any key B D2.length d D2 W hkl hB rfl (by omega) x4 (hT.later hb))
              rw [(ymade_root key r4).1, (ymade_root key r4).2] at HRD
              have HFIN : Hid (yroot key D2 = yroot key L ∨ ¬ D2.length = n) := Lib.hid (by
                by_cases hlen : D2.length = n
                · left
                  rw [eb (by rw [hl9]; exact hlen)]
                · exact .inr hlen)
              clear px py e2 eb r1 r1' l1 l1' p2 q2 r2 l2 x2 h1 h2 d1 r3 d2 r4 x4 l3 l4 hr hl9 hx9 hkl hT hxs hys hne hP1 hQ1 hP2 hD1 hD2 HKE
              generalize yroot key D2 = t3 at *
              generalize yroot key P2 = t2 at *
              generalize yroot key L = t at *
              have dk : ((xk : Int) == (yk : Int)) = false := by simp; omega
              have dk' : ¬ (xk : Int) = (yk : Int) := by omega
              obtain ⟨x0_3, x1_3⟩ := HX.out _ B3.out
              go_wp2_with fail
              refine (HPX.out _ B3.out).mono ?_
              rintro e w4 ⟨P, pd, rfl, hpd, hP, hb⟩
              have B4 := Lib.hid (bt B3.out hb)
              have HP := Lib.hid hP
              clear hb hP x0_3 x1_3
              obtain ⟨y0_4, y1_4⟩ := HY.out _ B4.out
              go_wp2_with fail
              refine (HPY.out _ B4.out).mono ?_
              rintro e w5 ⟨Q, qd, rfl, hqd, hQ, hb⟩
              have B5 := Lib.hid (bt B4.out hb)
              replace HP := Lib.hid (HP.out.later hb)
              have HQ := Lib.hid hQ
              clear hb hQ y0_4 y1_4
              obtain ⟨x0_5, x1_5⟩ := HX.out _ B5.out
              obtain ⟨y0_5, y1_5⟩ := HY.out _ B5.out
              go_wp2_with fail
              refine (HPP.out P pd _ HP.out hpd).mono ?_
              rintro e w6 ⟨P', pd', rfl, hpd', hP, hb⟩
              have B6 := Lib.hid (bt B5.out hb)
              have HP' := Lib.hid hP
              replace HQ := Lib.hid (HQ.out.later hb)
              clear hb hP HP x0_5 x1_5 y0_5 y1_5
              obtain ⟨x0_6, x1_6⟩ := HX.out _ B6.out
              go_wp2_with fail
              refine (HQQ.out Q qd _ HQ.out hqd).mono ?_
              rintro e w7 ⟨Q', qd', rfl, hqd', hQ, hb⟩
              have B7 := Lib.hid (bt B6.out hb)
              have HQ' := Lib.hid hQ
              replace HP' := Lib.hid (HP'.out.later hb)
              clear hb hQ HQ x0_6 x1_6
              go_wp2_with fail
              refine (HRP.out P' pd' _ HP'.out B7.out).mono ?_
              rintro e w8 ⟨rfl, hb⟩
              have B8 := Lib.hid (bt B7.out hb)
              replace HQ' := Lib.hid (HQ'.out.later hb)
              clear hb HP'
              go_wp2_with fail
              refine (HRP.out Q' qd' _ HQ'.out B8.out).mono ?_
              rintro e w9 ⟨rfl, hb⟩
              have B9 := Lib.hid (bt B8.out hb)
              replace HQ' := Lib.hid (HQ'.out.later hb)
              clear hb
              obtain ⟨x0_9, x1_9⟩ := HX.out _ B9.out
              go_wp2_with fail
              refine (HDX.out Q' qd' _ HQ'.out hqd').mono ?_
              rintro e w10 ⟨E, ed, rfl, hed, hE, hb⟩
              have B10 := Lib.hid (bt B9.out hb)
              have HE := Lib.hid hE
              clear hb hE HQ' x0_9 x1_9
              obtain ⟨y0_10, y1_10⟩ := HY.out _ B10.out
              go_wp2_with fail
              refine (HDY.out E ed _ HE.out hed).mono ?_
              rintro e w11 ⟨F, fd, rfl, hfd, hF, hb⟩
              have B11 := Lib.hid (bt B10.out hb)
              have HF := Lib.hid hF
              clear hb hF HE y0_10 y1_10
              go_wp2_with fail
              refine (HRD.out F fd _ HF.out B11.out).mono ?_
              rintro e w12 ⟨rfl, hb⟩
              have B12 := Lib.hid (bt B11.out hb)
              clear hb HF
              go_wp2_with fail
              refine (HAL.out _ B12.out).mono ?_
              rintro e w13 ⟨rfl, hb⟩
              have B13 := Lib.hid (bt B12.out hb)
              clear hb
              by_cases ht : t3 = t
              · subst ht
                clear HFIN
                go_wp2
                go_ret
                exact ⟨rfl, HB1.out.trans (Below.mono B13.out HB1.out.size)⟩
              · have hne2 := HFIN.out.resolve_left ht
                have z1 : (t3 == t) = false := by simp [ht]
                have z2 : ((D2.length : Int) != (n : Int)) = true := by simp; omega
                clear HFIN ht hne2
                go_wp2
                go_ret
                exact ⟨rfl, HB1.out.trans (Below.mono B13.out HB1.out.size)⟩
          · -- y's text is too long
            have py := iputE_size (x := (yk, ys)) hr hys
            rw [py.1, py.2] at HPY
            clear px py hr hl9 hx9 hkl hT hxs hys HKE
            obtain ⟨x0_3, x1_3⟩ := HX.out _ B3.out
            go_wp2_with fail
            refine (HPX.out _ B3.out).mono ?_
            rintro e w4 ⟨P, pd, rfl, hpd, hP, hb⟩
            have B4 := Lib.hid (bt B3.out hb)
            clear hb hP x0_3 x1_3
            obtain ⟨y0_4, y1_4⟩ := HY.out _ B4.out
            go_wp2_with fail
            refine (HPY.out _ B4.out).mono ?_
            rintro e w5 ⟨Q, qd, rfl, hqd, hQ, hb⟩
            have B5 := Lib.hid (bt B4.out hb)
            clear hb hQ y0_4 y1_4
            go_wp2_with fail
            refine (HAL.out _ B5.out).mono ?_
            rintro e w6 ⟨rfl, hb⟩
            have B6 := Lib.hid (bt B5.out hb)
            clear hb
            go_wp2
            go_ret
            exact ⟨rfl, HB1.out.trans (Below.mono B6.out HB1.out.size)⟩
        · -- x's text is too long
          have px := iputE_size (x := (xk, xs)) hr hxs
          rw [px.1, px.2] at HPX
          clear px hr hl9 hx9 hkl hT hxs HKE
          generalize iputE L (yk, ys) = ey at HPY
          generalize iputR L (yk, ys) = Ry at HPY
          obtain ⟨x0_3, x1_3⟩ := HX.out _ B3.out
          go_wp2_with fail
          refine (HPX.out _ B3.out).mono ?_
          rintro e w4 ⟨P, pd, rfl, hpd, hP, hb⟩
          have B4 := Lib.hid (bt B3.out hb)
          clear hb hP x0_3 x1_3
          obtain ⟨y0_4, y1_4⟩ := HY.out _ B4.out
          go_wp2_with fail
          refine (HPY.out _ B4.out).mono ?_
          rintro e w5 ⟨Q, qd, rfl, hqd, hQ, hb⟩
          have B5 := Lib.hid (bt B4.out hb)
          clear hb hQ y0_4 y1_4
          go_wp2_with fail
          refine (HAL.out _ B5.out).mono ?_
          rintro e w6 ⟨rfl, hb⟩
          have B6 := Lib.hid (bt B5.out hb)
          clear hb
          go_wp2
          go_ret
          exact ⟨rfl, HB1.out.trans (Below.mono B6.out HB1.out.size)⟩
        -- end done
  -- bad
  · rw [show yrootE L = 1 by rw [yrootE, if_neg hr], show yrootRes key L = [] by rw [yrootRes, if_neg hr]] at HRT
    clear hA1 hl9 hx9 hkl hT hr
    go_wp2_with fail
    refine (HRT.out _ (Below.refl _ _)).mono ?_
    rintro e w2 ⟨rfl, hb⟩
    have B2 := Lib.hid hb
    clear hb HRT
    go_wp2_with fail
    refine (HAL.out _ B2.out).mono ?_
    rintro e w3 ⟨rfl, hb⟩
    have B3 := Lib.hid (bt B2.out hb)
    clear hb
    go_wp2
    go_ret
    exact ⟨rfl, HB1.out.trans (Below.mono B3.out HB1.out.size)⟩
  -- end bad
end Go.Proofs.YthllanndiahdjaaDoor
