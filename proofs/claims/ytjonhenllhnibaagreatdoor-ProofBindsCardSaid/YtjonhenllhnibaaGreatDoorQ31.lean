/- Texts of this seat, one behind the other: PAlive, PRSteps. -/
import Derived.Test.YtjonhenllhnibaaGreatDoorQ10
import Derived.Test.YtjonhenllhnibaaGreatDoorQ15
import Derived.Test.YtjonhenllhnibaaGreatDoorQ16
import Derived.Test.YtjonhenllhnibaaGreatDoorQ22
import Derived.Test.YtjonhenllhnibaaGreatDoorQ28
import Derived.Test.YtjonhenllhnibaaGreatDoorQ29
import Derived.Test.YtjonhenllhnibaaGreatDoorQ30
/- The contract of alive. -/
namespace Go.Proofs.YtjonhenllhnibaaGreatDoor
open Go.RowKit

/-- The list of one. -/
def pZ1 : List ItL := [(3, [97])]
theorem pZ1_right : IRt pZ1 := by
  refine ⟨by decide, fun j hj => ?_, fun j hj h0 => ?_⟩
  · obtain rfl : j = 0 := by simp [pZ1] at hj; omega
    decide
  · simp [pZ1] at hj
    omega

set_option maxRecDepth 100000 in
set_option maxHeartbeats 4000000 in
theorem palive_any (w : World) (hT : VTab w) : Calls Tryz.prog 11 #[] w fun e w' => e = .returned (.bool true) ∧ Below w.heap.size w w' := by
  have hb0 := ba (Below.refl w.heap.size w) (.cells #[.int .u64 3, sv [97]] 42)
  have hk0 := Blk.new w 42 #[.int .u64 3, sv [97]]
  have HI : Hid (IR (w.alloc (.cells #[.int .u64 3, sv [97]] 42)) (some ⟨w.heap.size, 0, none⟩) pZ1) := Lib.hid fun j hj => by
    obtain rfl : j = 0 := by simp [pZ1] at hj; omega
    exact ⟨w.heap.size, 0, rfl, hk0.cell 0, hk0.cell 1⟩
  have hx : ∀ x ∈ pZ1, x.1 < 18446744073709551616 := fun x hx => by
    simp [pZ1] at hx
    subst hx
    decide
  have TP := Lib.hid (show Calls Tryz.prog 8 #[.string ⟨#[107]⟩, .slice (some ⟨w.heap.size, 0, none⟩) 1 1, .int .u64 3] _ _ from pProve_yes [107] (some ⟨w.heap.size, 0, none⟩) 1 1 3 0 pZ1 _ (by simp) HI.out rfl hx pZ1_right (by omega) (iatZ_yes (by decide) rfl pZ1_right.up) (hT.later hb0))
  have TR := Lib.hid (fun W (hb : Below (w.alloc (.cells #[.int .u64 3, sv [97]] 42)).heap.size (w.alloc (.cells #[.int .u64 3, sv [97]] 42)) W) => show Calls Tryz.prog 22 #[.string ⟨#[107]⟩, .slice (some ⟨w.heap.size, 0, none⟩) 1 1] W _ from yRoot_any [107] (some ⟨w.heap.size, 0, none⟩) 1 1 pZ1 W (by simp) (HI.out.later hb) rfl (by omega) hx (hT.later (bt hb0 hb)))
  have e1 : yrootE pZ1 = 0 := by rw [yrootE, if_pos pZ1_right]
  have e2 : yrootRes [107] pZ1 = yroot [107] pZ1 := by rw [yrootRes, if_pos pZ1_right]
  rw [e1, e2] at TR
  obtain ⟨hr1, hr2⟩ := pB_right (k := [107]) (Z := pZ1) (q := 0 + 1) (by decide) (by decide)
  have TC := Lib.hid (fun X Y c1 c2 W (h1 : LR W X (pB [107] pZ1 (0 + 1) 8)) (h2 : LR W Y (pF [107] pZ1 (0 + 1) 8)) => by
    have := pCheck_yes X Y c1 c2 3 [97] (yroot [107] pZ1) _ _ W (by simp) (by decide) h1 h2 hr1 hr2
    rw [decide_eq_true (show hsumL (psteps (3, [97]) (pB [107] pZ1 (0 + 1) 8) (pF [107] pZ1 (0 + 1) 8) 8) = yroot [107] pZ1 from pshow (k := [107]) (Z := pZ1) (j := 0) (by decide))] at this
    exact (show Calls Tryz.prog 17 #[.string ⟨(yroot [107] pZ1).toArray⟩, .agg #[.int .u64 3, sv [97]], .agg #[.slice X 8 c1, .slice Y 8 c2]] W _ from this))
  clear e1 e2 hr1 hr2 hx HI hT
  generalize yroot [107] pZ1 = r at *
  generalize pB [107] pZ1 (0 + 1) 8 = GB at *
  generalize pF [107] pZ1 (0 + 1) 8 = GF at *
  go_enter Tryz.func11, Tryz.ntmps11
  go_wp2_with fail
  refine TP.out.mono ?_
  rintro e w1 ⟨X, c1, Y, c2, rfl, hX, hY, hb1⟩
  have hba := ba hb1 (.cells #[.slice X 8 c1, .slice Y 8 c2] 26)
  have hkp := Blk.new w1 26 #[.slice X 8 c1, .slice Y 8 c2]
  have HX := Lib.hid (hX.later (ba (Below.refl w1.heap.size w1) (.cells #[.slice X 8 c1, .slice Y 8 c2] 26)))
  have HY := Lib.hid (hY.later (ba (Below.refl w1.heap.size w1) (.cells #[.slice X 8 c1, .slice Y 8 c2] 26)))
  clear hX hY hb1
  go_wp2_with fail
  refine (TR.out _ hba).mono ?_
  rintro e w2 ⟨rfl, hb2⟩
  have HK2 := Lib.hid (hkp.below hb2)
  have HI2 := Lib.hid ((hk0.below hba).below hb2)
  have HB2 := Lib.hid (bt (bt hb0 hba) hb2)
  have HX2 := Lib.hid (HX.out.later hb2)
  have HY2 := Lib.hid (HY.out.later hb2)
  clear hba hkp hb2 HX HY hk0 hb0 TR TP
  generalize w1.heap.size = bp at *
  go_wp2_with fail
  -- region 4
  refine wp_region_held_drew (S := fun W => Below w2.heap.size w2 W) (by kernel_rfl) (by first | exact Below.refl _ _ | exact (Below.refl _ _).drew) (fun hHeld => ?_)
  refine wpAnyH_take (i := 0) (oi := ⟨some 21, _, _, _, _, _⟩) (v := ?_) rfl (by kernel_rfl) (by kernel_rfl) (by kernel_rfl) (fun _ _ _ h => h) (Or.inl ⟨by rfl, ?_⟩) (by assumption) ?_
  rotate_left
  · (intro w9 hSw; (try dsimp only at hSw); go_simp; try with_reducible rfl)
  try simp only [Act.put, List.setIfInBounds_toArray, List.set_cons_zero, List.set_cons_succ]
  refine wpAnyH_take (i := 1) (oi := ⟨some 22, _, _, _, _, _⟩) (v := ?_) rfl (by kernel_rfl) (by kernel_rfl) (by kernel_rfl) (fun _ _ _ h => h) (Or.inl ⟨by rfl, ?_⟩) (by assumption) ?_
  rotate_left
  · (intro w9 hSw; (try dsimp only at hSw); go_simp; try with_reducible rfl)
  try simp only [Act.put, List.setIfInBounds_toArray, List.set_cons_zero, List.set_cons_succ]
  refine wpAnyH_take (i := 2) (oi := ⟨some 23, _, _, _, _, _⟩) (v := .pointer (some ⟨w.heap.size, 0, none⟩)) rfl (by kernel_rfl) (by kernel_rfl) (by kernel_rfl) (fun _ _ _ h => h) (Or.inl ⟨by rfl, ?_⟩) (by assumption) ?_
  · (intro w9 hSw; (try dsimp only at hSw); go_simp; try with_reducible rfl)
  try simp only [Act.put, List.setIfInBounds_toArray, List.set_cons_zero, List.set_cons_succ]
  refine wpAnyH_take (i := 3) (oi := ⟨some 24, _, _, _, _, _⟩) (v := .agg #[.int .u64 3, sv [97]]) rfl (by kernel_rfl) (by kernel_rfl) (by kernel_rfl) (fun _ _ _ h => h) (Or.inl ⟨by rfl, ?_⟩) (by assumption) ?_
  · (intro w9 hSw; have q8 := pcell0 (HI2.out.below hSw); have q9 := pcell1 (HI2.out.below hSw); (try dsimp only at hSw); go_simp; try with_reducible rfl)
  try simp only [Act.put, List.setIfInBounds_toArray, List.set_cons_zero, List.set_cons_succ]
  refine wpAnyH_take (i := 4) (oi := ⟨some 25, _, _, _, _, _⟩) (v := .agg #[.slice X 8 c1, .slice Y 8 c2]) rfl (by kernel_rfl) (by kernel_rfl) (by kernel_rfl) (fun _ _ _ h => h) (Or.inl ⟨by rfl, ?_⟩) (by assumption) ?_
  · (intro w9 hSw; have q8 := pcell0 (HK2.out.below hSw); have q9 := pcell1 (HK2.out.below hSw); (try dsimp only at hSw); go_simp; try with_reducible rfl)
  try simp only [Act.put, List.setIfInBounds_toArray, List.set_cons_zero, List.set_cons_succ]
  refine wpAnyH_ready (rs := [5]) (by kernel_rfl) (by simp) ?_
  refine AllReadyH.cons (o := ⟨some 26, _, _, _, _, _⟩) rfl (fun K9 hK9 => ?_) AllReadyH.nil
  go_simp; go_at_call 17
  refine (TC.out X Y c1 c2 w2.drew HX2.out HY2.out).mono ?_
  rintro e wa ⟨rfl, hba⟩
  have hS1 := bt (Below.refl w2.heap.size w2).drew hba
  refine hK9.out _ _ ?_ (fun hHeld => ?_)
  · exact hS1
  clear hK9 K9
  try simp only [Act.put, List.setIfInBounds_toArray, List.set_cons_zero, List.set_cons_succ]
  refine wpAnyH_take (i := 6) (oi := ⟨some 20, _, _, _, _, _⟩) (v := ?_) rfl (by kernel_rfl) (by kernel_rfl) (by kernel_rfl) (fun _ _ _ h => h) (Or.inl ⟨by rfl, ?_⟩) (by assumption) ?_
  rotate_left
  · (intro w9 hSw; (try dsimp only at hSw); go_simp; try with_reducible rfl)
  try simp only [Act.put, List.setIfInBounds_toArray, List.set_cons_zero, List.set_cons_succ]
  refine wpAnyH_take (i := 7) (oi := ⟨some 27, _, _, _, _, _⟩) (v := ?_) rfl (by kernel_rfl) (by kernel_rfl) (by kernel_rfl) (fun _ _ _ h => h) (Or.inl ⟨by rfl, ?_⟩) (by assumption) ?_
  rotate_left
  · (intro w9 hSw; (try dsimp only at hSw); go_simp; try with_reducible rfl)
  try simp only [Act.put, List.setIfInBounds_toArray, List.set_cons_zero, List.set_cons_succ]
  refine wpAnyH_take (i := 8) (oi := ⟨some 28, _, _, _, _, _⟩) (v := ?_) rfl (by kernel_rfl) (by kernel_rfl) (by kernel_rfl) (fun _ _ _ h => h) (Or.inl ⟨by rfl, ?_⟩) (by assumption) ?_
  rotate_left
  · (intro w9 hSw; (try dsimp only at hSw); go_simp; try with_reducible rfl)
  try simp only [Act.put, List.setIfInBounds_toArray, List.set_cons_zero, List.set_cons_succ]
  refine wpAnyH_take (i := 9) (oi := ⟨some 6, _, _, _, _, _⟩) (v := ?_) rfl (by kernel_rfl) (by kernel_rfl) (by kernel_rfl) (fun _ _ _ h => h) (Or.inl ⟨by rfl, ?_⟩) (by assumption) ?_
  rotate_left
  · (intro w9 hSw; (try dsimp only at hSw); go_simp; try with_reducible rfl)
  try simp only [Act.put, List.setIfInBounds_toArray, List.set_cons_zero, List.set_cons_succ]
  refine wpAnyH_take (i := 10) (oi := ⟨some 7, _, _, _, _, _⟩) (v := ?_) rfl (by kernel_rfl) (by kernel_rfl) (by kernel_rfl) (fun _ _ _ h => h) (Or.inl ⟨by rfl, ?_⟩) (by assumption) ?_
  rotate_left
  · (intro w9 hSw; (try dsimp only at hSw); go_simp; try with_reducible rfl)
  try simp only [Act.put, List.setIfInBounds_toArray, List.set_cons_zero, List.set_cons_succ]
  refine wpAnyH_done (by kernel_rfl) ?_ _
  have HB3 := Lib.hid (bt HB2.out hS1)
  have q0 := pcell0 (HK2.out.below hS1)
  clear hS1 hba
  go_wp2
  go_ret
  exact ⟨rfl, HB3.out⟩
  -- end 4
end Go.Proofs.YtjonhenllhnibaaGreatDoor
/- The contract of the reference's Steps. -/
namespace Go.Proofs.YtjonhenllhnibaaGreatDoor
open Go.RowKit

set_option maxRecDepth 100000 in
set_option maxHeartbeats 8000000 in
theorem prsteps_any (A B : Option Addr) (c d k : Nat) (s : List UInt8) (G F : List (List (List UInt8))) (w : World) (hs : s.length ≤ 64) (hk : k < 18446744073709551616) (hA : LR w A G) (hB : LR w B F) (hG : PRt G) (hF : PRt F) :
    Calls Tryz.prog 19 #[piv k s, pfv A 8 c B 8 d] w fun e w' => ∃ X c', e = .returned (.slice X 9 c') ∧ SR w' X (pstepL (k, s) G F 9) ∧ Below w.heap.size w w' := by
  obtain ⟨si, hsi, jy0, jy1, jy2⟩ := info_parts infoS
  have hb0 := ba (ba (Below.refl w.heap.size w) (.cells #[.int .u64 (k : Int), sv s] 42)) (.cells #[.slice A 8 c, .slice B 8 d] 26)
  have TI := Lib.hid (fun W => yritem_any k s W (by omega) hk)
  have TS := Lib.hid (fun n W => hrsum_any rwords_holds (psteps (k, s) G F n) W (by have := psteps_le (x := (k, s)) hG hF hs n; omega))
  have TJ := Lib.hid (fun n X c' W (hn : n < 8) (h : SR W X (G.getD n [] ++ hsumL (psteps (k, s) G F n) :: F.getD n [])) => by
    have h1 := pmid_len (x := (k, s)) hG hF n
    have := yrtext_any (n + 1) X _ c' _ W (by omega) h rfl (by omega) (by rw [ytake_flat _ (pmid_32 hG hF n)]; omega)
    rwa [show ytext (n + 1) (G.getD n [] ++ hsumL (psteps (k, s) G F n) :: F.getD n []) = psteps (k, s) G F (n + 1) from rfl, show (((n + 1 : Nat)) : Int) = (n : Int) + 1 by omega] at this)
  have HM := Lib.hid (pstepL_more (k, s) G F)
  have HL := Lib.hid (pstepL_len (k, s) G F)
  have HA9 := Lib.hid (fun (n i : Nat) (h : i < n) => pstepL_at (k, s) G F h)
  have H1 : Hid (yitem (k, s) = psteps (k, s) G F 0 ∧ pstepL (k, s) G F 0 = []) := Lib.hid ⟨rfl, rfl⟩
  rw [H1.out.1] at TI
  have HRA := Lib.hid (fun j W (hj : j < 8) (hb : Below w.heap.size w W) => (hA.later hb) j (by rw [hG.1]; exact hj))
  have HRB := Lib.hid (fun j W (hj : j < 8) (hb : Below w.heap.size w W) => (hB.later hb) j (by rw [hF.1]; exact hj))
  have HML : Hid (∀ n, (G.getD n []).length ≤ 64 ∧ (F.getD n []).length ≤ 64) := Lib.hid fun n => ⟨(hG.at n).1, (hF.at n).1⟩
  clear hA hB hG hF
  generalize psteps (k, s) G F = PS at *
  generalize pstepL (k, s) G F = PL at *
  have hki := (Blk.new w 42 #[.int .u64 (k : Int), sv s]).alloc (.cells #[.slice A 8 c, .slice B 8 d] 26)
  have hk1 : Blk ((w.alloc (.cells #[.int .u64 (k : Int), sv s] 42)).alloc (.cells #[.slice A 8 c, .slice B 8 d] 26)) (w.heap.size + 1) 26 #[.slice A 8 c, .slice B 8 d] := Blk.newAt (by simp) _ _
  have p0 := pcell0 hki
  have p1 := pcell1 hki
  go_enter Tryz.func19, Tryz.ntmps19
  go_wp2_with fail
  refine (TI.out _).mono ?_
  rintro e w2 ⟨rfl, hb2⟩
  have hba := ba (Below.refl w2.heap.size w2) (.cells #[sv (PS 0)] 9)
  have HK3 := Lib.hid ((hk1.below hb2).below hba)
  have HB3 := Lib.hid (bt (bt hb0 hb2) hba)
  have HO3 : Hid ((w2.alloc (.cells #[sv (PS 0)] 9)).ownsRow (w.heap.size + 2) 9 1 (.slice (some ⟨w2.heap.size, 0, none⟩) 1 1) 1 ((PL 1).map sv)) := Lib.hid (by
    rw [HM.out 0, H1.out.2]
    exact yown_one (Blk.new w2 _ _) (by have := (hk1.below hb2).lt; omega))
  clear hb2 hba hb0 hk1 hki p0 p1 TI
  go_wp2_with fail
  generalize w2.alloc (.cells #[sv (PS 0)] 9) = w3 at HK3 HB3 HO3 ⊢
  go_loopw [5, 6] (fun ov iv wr => ∃ (j c5 : Nat) (X : Option Addr), j ≤ 8 ∧ iv = .int .i64 (j : Int) ∧ ov = .slice X (j + 1) c5 ∧ Hid (wr.ownsRow (w.heap.size + 2) 9 1 (.slice X (j + 1) c5) (j + 1) ((PL (j + 1)).map sv)) ∧ Hid (Blk wr (w.heap.size + 1) 26 #[.slice A 8 c, .slice B 8 d]) ∧ Hid (Below w.heap.size w wr)) (fun _ i _ => 8 - (intOf i).toNat)
  case atStart => exact ⟨0, 1, _, Nat.zero_le _, rfl, rfl, HO3, HK3, HB3⟩
  case round =>
    clear HB3 HK3 HO3
    obtain ⟨j, c5, X, hj, rfl, rfl, HO, HK, HB⟩ := hrel
    by_cases hlt : j < 8
    · have i1 : (j : Int) < 8 := by omega
      have i0 : (0 : Int) ≤ (j : Int) := by omega
      have i2 : (j : Int) < (j : Int) + 1 := by omega
      -- the row of the labels joined: empty
      have hbe := ba (Below.refl wr.heap.size wr) (.cells #[] 9)
      have hoe : (wr.alloc (.cells #[] 9)).ownsRow wr.heap.size 9 1 (.slice (some ⟨wr.heap.size, 0, none⟩) 0 0) 0 [] := own_nil (Blk.new wr 9 #[]) (Nat.le_refl _)
      have HOe := Lib.hid (own_later HO.out hbe)
      have HKe := Lib.hid (HK.out.below hbe)
      have HBe := Lib.hid (bt HB.out hbe)
      have k0 := pcell0 HKe.out
      obtain ⟨ga, oa, Ba, da, rfl, ca, hda, hSa⟩ := HRA.out j _ hlt HBe.out
      have HML1 := Lib.hid (HML.out j)
      have HJj := Lib.hid (TJ.out j)
      have HRBj := Lib.hid (HRB.out j)
      have HTj := Lib.hid (TS.out j)
      generalize G.getD j [] = Ga at *
      generalize F.getD j [] = Fa at *
      generalize hsumL (PS j) = y at *
      obtain ⟨na, hna⟩ : ∃ na, Ga.length = na := ⟨_, rfl⟩
      obtain ⟨nb, hnb⟩ : ∃ nb, Fa.length = nb := ⟨_, rfl⟩
      have hn64 : na ≤ 64 ∧ nb ≤ 64 := by have := HML1.out; omega
      have HNA := Lib.hid (And.intro hna hnb)
      rw [hna] at ca
      obtain ⟨A1, e1, w4, hr1, ho1, hg1⟩ := qappend_row (d := da) hoe hSa hna (by omega) (by simp)
      rw [Nat.zero_add] at hr1 ho1
      rw [List.nil_append] at ho1
      have HO1 := Lib.hid ho1
      have HD4 := Lib.hid (hbe.grown hg1 (by simp) (fun q e => by have := (hoe.lt q e).1; omega))
      have HX4 := Lib.hid (own_SR' (own_later HO.out HD4.out) (HL.out (j + 1)))
      obtain ⟨gx, ox, rfl, s0⟩ := HX4.out j (by rw [HL.out]; omega)
      rw [HA9.out (j + 1) j (by omega)] at s0
      clear hbe hoe ho1 hg1 hSa HOe HKe HBe hda hna hnb HX4
      go_wp2_with (at_builtin; refine qlist_append_run _ (by kernel_rfl) _ _ 43 43 rfl (.slice (some ⟨wr.heap.size, 0, none⟩) 0 0) (.slice Ba na da) rfl rfl _ _ hr1 ?_; clear hr1)
      -- the own label
      clear ca k0
      go_wp2_with fail
      refine (HTj.out w4).mono ?_
      rintro e w5 ⟨rfl, hb5⟩
      have hb6 := ba hb5 (.cells #[sv y] 9)
      have HD6 := Lib.hid (HD4.out.trans (hb6.mono HD4.out.size))
      have ho6 := own_later HO1.out hb6
      have hS6 : SR (w5.alloc (.cells #[sv y] 9)) (some ⟨w5.heap.size, 0, none⟩) [y] := fun t ht => by
        obtain rfl : t = 0 := by simp at ht; omega
        exact ⟨_, 0, rfl, (Blk.new w5 9 #[sv y]).cell 0⟩
      have hz6 : wr.heap.size ≤ (w5.alloc (.cells #[sv y] 9)).heap.size := HD6.out.size
      obtain ⟨A2, e2, w7, hr2, ho2, hg2⟩ := qappend_row (d := 1) ho6 hS6 rfl (by simp; omega) hz6
      simp only [List.length_singleton, List.map_cons, List.map_nil] at hr2 ho2
      have HO2 := Lib.hid ho2
      have HD7 := Lib.hid (HD6.out.grown hg2 HD6.out.size (fun q e => (ho6.lt q e).1))
      have HB7 := Lib.hid (bt HB.out HD7.out)
      have k1 := pcell1 (HK.out.below HD7.out)
      obtain ⟨gb, ob, Bb, db, rfl, cb, hdb, hSb⟩ := HRBj.out w7 hlt HB7.out
      rw [HNA.out.2] at cb
      obtain ⟨A3, e3, w8, hr3, ho3, hg3⟩ := qappend_row (d := db) HO2.out hSb HNA.out.2 (by omega) HD7.out.size
      have HO3 : Hid (w8.ownsRow wr.heap.size 9 1 (.slice A3 (na + 1 + nb) e3) (na + 1 + nb) ((Ga ++ y :: Fa).map sv)) := Lib.hid (by
        have e : (Ga ++ y :: Fa).map sv = Ga.map sv ++ [sv y] ++ Fa.map sv := by simp
        rw [e]
        exact ho3)
      have HD8 := Lib.hid (HD7.out.grown hg3 HD7.out.size (fun q e => (HO2.out.lt q e).1))
      clear hb5 hb6 ho6 hS6 hz6 ho2 hg2 HD4 HD6 HO1 s0 ho3 hg3 hSb hdb HD7 HB7 HO2
      go_wp2_with (at_builtin; first | (refine qlist_append_run _ (by kernel_rfl) _ _ 43 43 rfl (.slice A1 na e1) (.slice (some ⟨w5.heap.size, 0, none⟩) 1 1) rfl rfl _ _ hr2 ?_; clear hr2) | (refine qlist_append_run _ (by kernel_rfl) _ _ 43 43 rfl (.slice A2 (na + 1) e2) (.slice Bb nb db) rfl rfl _ _ hr3 ?_; clear hr3))
      -- the next step
      have HS8 := Lib.hid (own_SR' HO3.out (by rw [List.length_append, List.length_cons, HNA.out.1, HNA.out.2]; omega))
      have hTJ := HJj.out A3 e3 w8 hlt HS8.out
      rw [show (Ga ++ y :: Fa).length = na + 1 + nb by rw [List.length_append, List.length_cons, HNA.out.1, HNA.out.2]; omega] at hTJ
      have HTJ := Lib.hid hTJ
      clear hTJ HS8 HO3 k1 cb
      refine HTJ.out.mono ?_
      rintro e w9 ⟨rfl, hb9⟩
      have hD9 := HD8.out.trans (hb9.mono HD8.out.size)
      have hA9 := ba hD9 (.cells #[sv (PS (j + 1))] 9)
      have hownA := own_later HO.out hA9
      have HK9 := Lib.hid (HK.out.below hA9)
      have HB9 := Lib.hid (bt HB.out hA9)
      have hnews := World.news_of_block (heap_alloc_new w9 (.cells #[sv (PS (j + 1))] 9))
      have HLT : Hid (w.heap.size + 2 ≤ (w9.alloc (.cells #[sv (PS (j + 1))] 9)).heap.size) := Lib.hid (by have := HK.out.lt; have := hA9.size; omega)
      clear hb9 hD9 hA9 HTJ HD8 HO HK HB
      go_wp2_with (at_builtin; refine wpList_append_own _ rfl _ _ 43 rfl (w.heap.size + 2) 9 si _ 1 16 Tryz.underlying43 hsi jy0 jy1 jy2 rfl (by decide) _ _ _ rfl hownA ⟨w9.heap.size, 0, none⟩ 1 1 [sv (PS (j + 1))] rfl rfl hnews (by simp [Value.oneCell']) (by unfold maxLen; omega) (by omega) HLT.out ?_; intro v4 wz hown7 hgrow7 _; obtain ⟨g7, c7, rfl⟩ := ownsRow_succ hown7)
      have HK7 := Lib.hid (HK9.out.grown hgrow7 (fun e => by have := (hownA.lt _ e.symm).1; omega))
      have HB7 := Lib.hid (HB9.out.grown hgrow7 HB9.out.size (fun q e => by have := (hownA.lt q e).1; omega))
      have HO7 : Hid (wz.ownsRow (w.heap.size + 2) 9 1 (.slice (some ⟨g7, 0, none⟩) (j + 1 + 1) c7) (j + 1 + 1) ((PL (j + 1 + 1)).map sv)) := Lib.hid (by rw [HM.out (j + 1), List.map_append]; exact hown7)
      clear hown7 hgrow7 hownA hnews HK9 HB9 HLT
      go_wp2_with fail
      exact ⟨⟨j + 1, c7, _, by omega, by go_num, rfl, HO7, HK7, HB7⟩, by simp [intOf]; omega⟩
    · obtain rfl : j = 8 := by omega
      have HR := Lib.hid (own_SR' HO.out (HL.out 9))
      clear HO HK
      go_wp2
      go_ret
      exact ⟨X, c5, rfl, HR.out, HB.out⟩
end Go.Proofs.YtjonhenllhnibaaGreatDoor
