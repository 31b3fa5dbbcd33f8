/- Texts of this seat, one behind the other: POpen, PAll, PTwice. -/
import Derived.Test.YtjonhenllhnibaaGreatDoorQ01
import Derived.Test.YtjonhenllhnibaaGreatDoorQ10
import Derived.Test.YtjonhenllhnibaaGreatDoorQ15
import Derived.Test.YtjonhenllhnibaaGreatDoorQ16
import Derived.Test.YtjonhenllhnibaaGreatDoorQ17
import Derived.Test.YtjonhenllhnibaaGreatDoorQ18
import Derived.Test.YtjonhenllhnibaaGreatDoorQ23
import Derived.Test.YtjonhenllhnibaaGreatDoorQ27
import Derived.Test.YtjonhenllhnibaaGreatDoorQ28
import Derived.Test.YtjonhenllhnibaaGreatDoorQ30
/- A proof that came in as a parameter, opened. -/
namespace Go.Proofs.YtjonhenllhnibaaGreatDoor
open Go.ChangeShapes Go.WideShapes Go.ChangeAt Go.RowKit Go.Joins Go.Deep

theorem popen_texts_in {H : Type} {enc : TypeId × Value → H} {W : World} {base fuel : Nat} {sp : Nat → Bool} {x : Value} {y : DataW H × List MemPlace}
    (hf : DataW.trod enc Tryz.prog W base sp true fuel 43 [x] = some y) :
    ∃ (A : Option Addr) (cap : Nat) (L : List (List UInt8)), x = .slice A L.length cap ∧ L.length ≤ cap ∧ (L.length : Int) ≤ 9223372036854775807 ∧ (∀ j, ((L.getD j []).length : Int) ≤ 9223372036854775807) ∧ SR W A L := by
  rcases open_strs Tryz.underlying43 Tryz.underlying9 (by kernel_rfl) hf with ⟨hcs, _⟩ | ⟨a, len, cap, m, Sx, hcs, _, hle, hcap, hm, _, hcell⟩
  · exact ⟨none, 0, [], by simpa using hcs, Nat.le_refl _, by simp, by simp, SR.nil _ _⟩
  · have hlm : len ≤ m := by rw [hm]; split <;> omega
    unfold maxLen at hcap
    have hLl : ((List.range len).map fun i => (Sx i).data.toList).length = len := by simp
    have hat : ∀ j, j < len → ((List.range len).map fun i => (Sx i).data.toList).getD j [] = (Sx j).data.toList := fun j hj => by simp [List.getD, hj]
    refine ⟨some a, cap, (List.range len).map fun i => (Sx i).data.toList, by rw [hLl]; simpa using hcs, by omega, by omega, fun j => ?_, fun j hj => ?_⟩
    · by_cases hj : j < len
      · rw [hat j hj]
        have := (hcell j (by omega)).2
        unfold maxLen at this
        have e : (Sx j).data.toList.length = (Sx j).size := Array.length_toList
        omega
      · rw [List.getD, List.getElem?_eq_none (by omega)]
        simp
    · rw [hLl] at hj
      have hc := (hcell j (by omega)).1
      obtain ⟨g, off, s⟩ := a
      have hs : s = none := by
        have := (hcell 0 (by omega)).1
        simpa [Addr.add] using World.cell?_spot this
      subst hs
      rw [Go.WideShapes.add_plain] at hc
      exact ⟨g, off, rfl, by rw [hat j hj, hc]⟩
theorem cellsT : Tryz.prog.cellsOf 43 = 1 := by kernel_rfl
theorem cellsTT : Tryz.prog.cellsOf 24 = 1 := by kernel_rfl
theorem cellsPf : Tryz.prog.cellsOf 26 = 2 := by kernel_rfl

set_option maxRecDepth 100000 in
theorem open_rows_in {H : Type} {enc : TypeId × Value → H} {W : World} {base fuel : Nat} {sp : Nat → Bool} {x : Value} {y : DataW H × List MemPlace}
    (hf : DataW.trod enc Tryz.prog W base sp true fuel 24 [x] = some y) :
    ∃ (A : Option Addr) (cap : Nat) (G : List (List (List UInt8))), x = .slice A G.length cap ∧ G.length ≤ cap ∧ LR W A G ∧ PSmall G := by
  rcases open_slice Tryz.underlying24 hf with ⟨hcs, _⟩ | ⟨a, len, cap, m, n, D, Pl, hcs, _, hle, hcap, hm, _, hi⟩
  · exact ⟨none, 0, [], by simpa using hcs, Nat.le_refl _, LR.nil _ _, ⟨by simp, by simp, by simp⟩⟩
  · have hlm : len ≤ m := by rw [hm]; split <;> omega
    unfold maxLen at hcap
    obtain ⟨L, hL, hq⟩ := ilist_of (Q := fun i (q : List (List UInt8)) => ∃ B d, W.cell? (a.add i) = some (.slice B q.length d) ∧ q.length ≤ d ∧ (q.length : Int) ≤ 9223372036854775807 ∧ (∀ j, ((q.getD j []).length : Int) ≤ 9223372036854775807) ∧ SR W B q) len (fun i hil => by
      obtain ⟨cs', hc, ht'⟩ := hi i (by omega)
      rw [cellsT, Nat.mul_one] at hc
      obtain ⟨_, hcl, hat⟩ := World.cells?_some hc
      obtain ⟨v, rfl⟩ : ∃ v, cs' = [v] := by
        match cs', hcl with
        | [v], _ => exact ⟨v, rfl⟩
      obtain ⟨B, d, q, rfl, h1, h2, h3, h4⟩ := popen_texts_in ht'
      have h5 := hat 0 (by omega)
      rw [show (a.add i).add 0 = a.add i by simp [Addr.add]] at h5
      exact ⟨q, B, d, by simpa using h5, h1, h2, h3, h4⟩)
    refine ⟨some a, cap, L, by rw [hL]; simpa using hcs, by omega, fun i hi9 => ?_, ⟨by omega, fun j => ?_, fun j i => ?_⟩⟩
    · obtain ⟨B, d, h1, h2, _, _, h5⟩ := hq i hi9
      obtain ⟨g, off, s⟩ := a
      have hs : s = none := by
        obtain ⟨B0, d0, h0, _⟩ := hq 0 (by omega)
        simpa [Addr.add] using World.cell?_spot h0
      subst hs
      rw [Go.WideShapes.add_plain] at h1
      have e : L.getD i [] = L[i] := by simp [List.getD, hi9]
      rw [e]
      exact ⟨g, off, B, d, rfl, h1, h2, h5⟩
    · by_cases hj : j < L.length
      · obtain ⟨_, _, _, _, h3, _⟩ := hq j hj
        have e : L.getD j [] = L[j] := by simp [List.getD, hj]
        rw [e]
        exact h3
      · rw [List.getD, List.getElem?_eq_none (by omega)]
        simp
    · by_cases hj : j < L.length
      · obtain ⟨_, _, _, _, _, h4, _⟩ := hq j hj
        have e : L.getD j [] = L[j] := by simp [List.getD, hj]
        rw [e]
        exact h4 i
      · have e : L.getD j [] = [] := by simp [List.getD, List.getElem?_eq_none (Nat.le_of_not_lt hj)]
        rw [e]
        simp
set_option maxRecDepth 100000 in
theorem open_proof {H : Type} {enc : TypeId × Value → H} {W : World} {base : Nat} {sp : Nat → Bool} {r : Reach} {b0 : Nat} {v : Value} {d : DataW H} {p : List MemPlace}
    (hv : Value.okWide Tryz.prog W r b0 26 v) (h : DataW.Trod enc Tryz.prog W base sp true 26 v d p) :
    ∃ (A B : Option Addr) (c e : Nat) (G F : List (List (List UInt8))), v = .agg #[.slice A G.length c, .slice B F.length e] ∧ G.length ≤ c ∧ F.length ≤ e ∧ LR W A G ∧ LR W B F ∧ PSmall G ∧ PSmall F := by
  obtain ⟨cs, rfl, hcs⟩ := okWide_struct Tryz.underlying26 hv
  obtain ⟨fuel, hf⟩ := h
  rw [cellsPf] at hcs
  obtain ⟨x, y, rfl⟩ : ∃ x y, cs = #[x, y] := by
    obtain ⟨l⟩ := cs
    match l, hcs with
    | [x, y], _ => exact ⟨x, y, rfl⟩
  obtain ⟨y0, y1, n, _, _, t0, t1⟩ := trod_struct2 Tryz.underlying26 hf
  simp only [cellsTT] at t0 t1
  obtain ⟨A, c, G, rfl, g1, g2, g3⟩ := open_rows_in (by simpa [Value.cells] using t0)
  obtain ⟨B, e, F, rfl, f1, f2, f3⟩ := open_rows_in (by simpa [Value.cells] using t1)
  exact ⟨A, B, c, e, G, F, rfl, g1, f1, g2, f2, g3, f3⟩
end Go.Proofs.YtjonhenllhnibaaGreatDoor
/- The contract of the reference's All: the texts that are summed for a list's label. -/
namespace Go.Proofs.YtjonhenllhnibaaGreatDoor
open Go.RowKit

theorem pallI_zero (Z : List ItL) : pallI Z 0 = [] := rfl
theorem pallI_succ (Z : List ItL) (q : Nat) : pallI Z (q + 1) = [yitem (Z.getD q (0, []))] := rfl

set_option maxRecDepth 100000 in
set_option maxHeartbeats 16000000 in
theorem prall_any (n cA cB : Nat) (A B : Option Addr) (Z : List ItL) (H : List Nat) (w : World) (hA : IR w A Z) (hB : VR vi w B H) (hz : Z.length = n) (hh : H.length = n) (hn : n ≤ 64) (hx : ∀ x ∈ Z, x.1 < 18446744073709551616) (hs : ∀ x ∈ Z, x.2.length ≤ 4096) :
    Calls Tryz.prog 52 #[ytv A B n cA cB] w fun e w' => ∃ X m c, e = .returned (.slice X m c) ∧ m = (pall Z (ybase Z) (9 :: H) (n + 1)).length ∧ m ≤ 700 ∧ SR w' X (pall Z (ybase Z) (9 :: H) (n + 1)) ∧ Below w.heap.size w w' := by
  obtain ⟨si, hsi, jy0, jy1, jy2⟩ := info_parts infoS
  have TO := Lib.hid (fun lev q W (hlev : lev < 8) (hq : q ≤ n) (hb : Below w.heap.size w W) => yfrom_any lev q n cA cB A B H (ylab (ybase Z) (9 :: H) lev) W (hB.later hb) hh hq (by omega) (fun p W2 hp hb2 => yof_any n cA cB A B Z H w hA hB hz hh (by omega) hx hs lev p W2 (by omega) hp (bt hb hb2)))
  have TT := Lib.hid (fun (lev q : Nat) (X : Option Addr) (c : Nat) (W : World) (hlev : lev < 8) (hq : q ≤ n) (h : SR W X ((yfrom (9 :: H) lev q).map (ylab (ybase Z) (9 :: H) lev))) => by
    have hl := yfrom_len (9 :: H) lev q (by rw [List.length_cons, hh]; omega)
    rw [List.length_cons, hh] at hl
    have := yrtext_any (lev + 1) X _ c _ W (by omega) h rfl (by rw [List.length_map]; omega) (by
      rw [ytake_flat _ (fun s hs => by obtain ⟨i, _, rfl⟩ := List.mem_map.1 hs; exact ylabb_len Z (9 :: H) lev i), List.length_map]
      omega)
    rwa [show ytext (lev + 1) ((yfrom (9 :: H) lev q).map (ylab (ybase Z) (9 :: H) lev)) = pallT (ybase Z) (9 :: H) q lev from rfl, show (((lev + 1 : Nat)) : Int) = (lev : Int) + 1 by omega, List.length_map] at this)
  have TI : Hid (∀ j W, j < n → Calls Tryz.prog 46 #[.agg #[.int .u64 ((Z.getD j (0, [])).1 : Int), sv (Z.getD j (0, [])).2]] W fun e w' => e = .returned (.string ⟨(yitem (Z.getD j (0, []))).toArray⟩) ∧ Below W.heap.size W w') := Lib.hid fun j W hj => by
    have hm : Z.getD j (0, []) ∈ Z := by
      simp only [List.getD, List.getElem?_eq_getElem (show j < Z.length by omega), Option.getD_some]
      exact List.getElem_mem _
    exact yritem_any _ _ W (hs _ hm) (hx _ hm)
  have HRH := Lib.hid (fun j W (hj : j < n) (hb : Below w.heap.size w W) => (hB.later hb) j (by omega))
  have HRZ := Lib.hid (fun j W (hj : j < n) (hb : Below w.heap.size w W) => (hA.later hb) j (by omega))
  have HZ0 := Lib.hid (pall_zero Z (ybase Z) (9 :: H))
  have HZM := Lib.hid (pall_more Z (ybase Z) (9 :: H))
  have HI0 := Lib.hid (pallI_zero Z)
  have HI1 := Lib.hid (pallI_succ Z)
  have HP0 := Lib.hid (pallP_zero (ybase Z) (9 :: H))
  have HPY := Lib.hid (fun q j (h : j + 1 < (9 :: H).getD q 0) => pallP_yes (base := ybase Z) h)
  have HPN := Lib.hid (fun q j (h : ¬ j + 1 < (9 :: H).getD q 0) => pallP_no (base := ybase Z) h)
  have HH0 : Hid ((9 :: H).getD 0 0 = 9 ∧ ∀ q, (9 :: H).getD (q + 1) 0 = H.getD q 0) := Lib.hid ⟨rfl, fun _ => rfl⟩
  clear hA hB hz hh hx hs
  generalize pallT (ybase Z) (9 :: H) = PT at *
  generalize pallP (ybase Z) (9 :: H) = PP at *
  generalize pallI Z = PI at *
  generalize pall Z (ybase Z) (9 :: H) = PL at *
  generalize hFR : (fun lev q => (yfrom (9 :: H) lev q).length) = FL at *
  generalize hFM : (fun lev q => (yfrom (9 :: H) lev q).map (ylab (ybase Z) (9 :: H) lev)) = FM at *
  have eL : ∀ lev q, (yfrom (9 :: H) lev q).length = FL lev q := fun lev q => by rw [← hFR]
  have eM : ∀ lev q, (yfrom (9 :: H) lev q).map (ylab (ybase Z) (9 :: H) lev) = FM lev q := fun lev q => by rw [← hFM]
  have HML : Hid (∀ lev q, (FM lev q).length = FL lev q) := Lib.hid fun lev q => by rw [← eM, ← eL, List.length_map]
  simp only [eL, eM] at TO TT
  clear eL eM hFR hFM
  generalize 9 :: H = H9 at *
  have hb0 := ba (Below.refl w.heap.size w) (.cells #[.slice A n cA, .slice B n cB] 38)
  have hk0 := Blk.new w 38 #[.slice A n cA, .slice B n cB]
  have hcv : (convert 90 9 (.slice (some ⟨w.heap.size + 1, 0, none⟩) 1 1)).run Tryz.prog ((w.alloc (.cells #[.slice A n cA, .slice B n cB] 38)).alloc (.cells #[.int .u8 1] 5)) = .ok (.string ⟨[1].toArray⟩) ((w.alloc (.cells #[.slice A n cA, .slice B n cB] 38)).alloc (.cells #[.int .u8 1] 5)) :=
    yone_at 1 _ _ ((Blk.newAt (w := w.alloc (.cells #[.slice A n cA, .slice B n cB] 38)) (g := w.heap.size + 1) (by simp) 5 #[.int .u8 1]).cell 0)
  go_enter Tryz.func52, Tryz.ntmps52
  go_wp2_with fail
  clear hcv
  have hba := ba (ba hb0 (.cells #[.int .u8 1] 5)) (.cells #[sv [1]] 9)
  have HK2 := Lib.hid ((hk0.alloc (.cells #[.int .u8 1] 5)).alloc (.cells #[sv [1]] 9))
  have HB2 := Lib.hid hba
  have HO2 : Hid ((((w.alloc (.cells #[.slice A n cA, .slice B n cB] 38)).alloc (.cells #[.int .u8 1] 5)).alloc (.cells #[sv [1]] 9)).ownsRow (w.heap.size + 1) 9 1 (.slice (some ⟨w.heap.size + 1 + 1, 0, none⟩) 1 1) 1 ((PL 0).map sv)) := Lib.hid (by
    rw [HZ0.out]
    exact yown_one (Blk.newAt (by simp) _ _) (by omega))
  clear hb0 hk0 hba
  generalize ((w.alloc (.cells #[.slice A n cA, .slice B n cB] 38)).alloc (.cells #[.int .u8 1] 5)).alloc (.cells #[sv [1]] 9) = w2 at HK2 HB2 HO2 ⊢
  go_loopw [3, 4] (fun ov iv wr => ∃ (q m c5 : Nat) (X : Option Addr), q ≤ n + 1 ∧ iv = .int .i64 ((q : Int) - 1) ∧ ov = .slice X m c5 ∧ m ≤ 1 + 9 * q ∧ Hid (m = (PL q).length) ∧ Hid (wr.ownsRow (w.heap.size + 1) 9 1 (.slice X m c5) m ((PL q).map sv)) ∧ Hid (Blk wr w.heap.size 38 #[.slice A n cA, .slice B n cB]) ∧ Hid (Below w.heap.size w wr)) (fun _ i _ => n + 1 - (intOf i + 1).toNat)
  case atStart => exact ⟨0, 1, 1, _, Nat.zero_le _, rfl, rfl, Nat.le_refl _, Lib.hid (by rw [HZ0.out]; rfl), HO2, HK2, HB2⟩
  case round =>
    clear HK2 HB2 HO2
    obtain ⟨q, m, c5, X, hq, rfl, rfl, hm, HM, HO, HK, HB⟩ := hrel
    rename World => wq
    have k0 := HK.out.cell 0
    have k1 := HK.out.cell 1
    simp only [List.getElem?_toArray, List.getElem?_cons_zero, List.getElem?_cons_succ] at k0 k1
    by_cases hlt : q < n + 1
    · have i1 : (q : Int) - 1 < (n : Int) := by omega
      -- ways
      cases q with
      | zero =>
        have e0 : ((0 : Nat) : Int) - 1 = -1 := rfl
        rw [e0] at i1 ⊢
        have HE0 : Hid (PL 0 ++ PI 0 ++ PP 0 0 = PL 0) := Lib.hid (by rw [HI0.out, HP0.out]; simp)
        go_wp2_with fail
        go_loopw [3, 5] (fun ov iv wr => ∃ (j m2 c6 : Nat) (X2 : Option Addr), j ≤ 8 ∧ iv = .int .i64 (j : Int) ∧ ov = .slice X2 m2 c6 ∧ m2 ≤ m + j ∧ Hid (m2 = (PL 0 ++ PI 0 ++ PP 0 j).length) ∧ Hid (wr.ownsRow (w.heap.size + 1) 9 1 (.slice X2 m2 c6) m2 ((PL 0 ++ PI 0 ++ PP 0 j).map sv)) ∧ Hid (Blk wr w.heap.size 38 #[.slice A n cA, .slice B n cB]) ∧ Hid (Below w.heap.size w wr)) (fun _ i _ => 8 - (intOf i).toNat)
        case atStart => exact ⟨0, m, c5, X, Nat.zero_le _, rfl, rfl, Nat.le_refl _, by rw [HE0.out]; exact HM, by rw [HE0.out]; exact HO, HK, HB⟩
        case round =>
          clear HM HO HK HB k0 k1 HE0
          obtain ⟨j, m2, c6, X2, hj, rfl, rfl, hm2, HM, HO, HK, HB⟩ := hrel
          have k0 := HK.out.cell 0
          have k1 := HK.out.cell 1
          simp only [List.getElem?_toArray, List.getElem?_cons_zero, List.getElem?_cons_succ] at k0 k1
          by_cases hj8 : j < 8
          · have i2 : (j : Int) < 8 := by omega
            have hh1 : j + 1 < H9.getD 0 0 := by rw [HH0.out.1]; omega
            have HPj : Hid (PL 0 ++ PI 0 ++ PP 0 (j + 1) = PL 0 ++ PI 0 ++ PP 0 j ++ [PT 0 j]) := Lib.hid (by rw [HPY.out _ j hh1]; simp)
            have hT := TO.out j 0 wr hj8 (by omega) HB.out
            rw [show ((0 : Nat) : Int) - 1 = -1 from rfl] at hT
            have HT := Lib.hid hT
            clear hT hh1
            go_wp2_with fail
            refine HT.out.mono ?_
            rintro e w4 ⟨XF, cF, rfl, hoF, hb4⟩
            have HS := Lib.hid (TT.out j 0 XF cF w4 hj8 (by omega) (own_SR' hoF (HML.out j 0)))
            clear hoF HT
            generalize FL j 0 = fl at HS ⊢
            go_wp2_with fail
            refine HS.out.mono ?_
            rintro e w5 ⟨rfl, hb5⟩
            generalize PT 0 j = pt at HPj ⊢
            have hA5 := ba (bt hb4 hb5) (.cells #[sv pt] 9)
            have hownA := own_later HO.out hA5
            have HK5 := Lib.hid (HK.out.below hA5)
            have HB5 := Lib.hid (bt HB.out hA5)
            have hnews := World.news_of_block (heap_alloc_new w5 (.cells #[sv pt] 9))
            have HSZ : Hid (w.heap.size + 1 ≤ (w5.alloc (.cells #[sv pt] 9)).heap.size) := Lib.hid (by have := HK5.out.lt; omega)
            clear hb4 hb5 HS hA5
            go_wp2_with (at_builtin; refine wpList_append_own _ rfl _ _ 43 rfl (w.heap.size + 1) 9 si _ 1 16 Tryz.underlying43 hsi jy0 jy1 jy2 rfl (by decide) _ _ _ rfl hownA ⟨w5.heap.size, 0, none⟩ 1 1 [sv pt] rfl rfl hnews (by simp [Value.oneCell']) (by unfold maxLen; omega) (by omega) HSZ.out ?_; intro v4 w6 hown6 hgrow6 _; obtain ⟨g6, c6, rfl⟩ := ownsRow_succ hown6)
            have HM6 : Hid (m2 + 1 = (PL 0 ++ PI 0 ++ PP 0 (j + 1)).length) := Lib.hid (by rw [HPj.out, List.length_append, ← HM.out]; rfl)
            have HB6 := Lib.hid (HB5.out.grown hgrow6 HB5.out.size (fun k e => by have := (hownA.lt k e).1; omega))
            have HK6 := Lib.hid (HK5.out.grown hgrow6 (fun e => by have := (hownA.lt _ e.symm).1; omega))
            have HO6 : Hid (w6.ownsRow (w.heap.size + 1) 9 1 (.slice (some ⟨g6, 0, none⟩) (m2 + 1) c6) (m2 + 1) ((PL 0 ++ PI 0 ++ PP 0 (j + 1)).map sv)) := Lib.hid (by rw [HPj.out, List.map_append]; exact hown6)
            clear hown6 hgrow6 hownA hnews HB5 HK5 HSZ
            go_wp2_with fail
            exact ⟨⟨j + 1, m2 + 1, c6, _, by omega, by go_num, rfl, by omega, HM6, HO6, HK6, HB6⟩, by simp [intOf]; omega⟩
          · obtain rfl : j = 8 := by omega
            have HE := Lib.hid (HZM.out 0)
            rw [← HE.out] at HM HO
            clear k0 k1
            go_wp2_with fail
            exact ⟨⟨1, m2, c6, X2, by omega, by go_num, rfl, by omega, HM, HO, HK, HB⟩, by simp [intOf]; try omega⟩
      | succ t =>
        have e0 : (((t + 1 : Nat)) : Int) - 1 = (t : Int) := by omega
        rw [e0] at i1 ⊢
        obtain ⟨gz, oz, rfl, z0, z1⟩ := HRZ.out t wq (by omega) HB.out
        have HTI := Lib.hid (fun W => TI.out t W (by omega))
        have HPI : Hid (PL (t + 1) ++ PI (t + 1) ++ PP (t + 1) 0 = PL (t + 1) ++ [yitem (Z.getD t (0, []))]) := Lib.hid (by rw [HI1.out, HP0.out]; simp)
        generalize yitem (Z.getD t (0, [])) = yt at *
        generalize Z.getD t (0, []) = x at *
        obtain ⟨xk, xs⟩ := x
        simp only at z0 z1 HTI
        have i5 : (0 : Int) ≤ (t : Int) := by omega
        go_wp2_with fail
        refine (HTI.out _).mono ?_
        rintro e w5 ⟨rfl, hb5⟩
        have hA5 := ba hb5 (.cells #[sv yt] 9)
        have hownA := own_later HO.out hA5
        have HK5 := Lib.hid (HK.out.below hA5)
        have HB5 := Lib.hid (bt HB.out hA5)
        have hnews := World.news_of_block (heap_alloc_new w5 (.cells #[sv yt] 9))
        have HSZ : Hid (w.heap.size + 1 ≤ (w5.alloc (.cells #[sv yt] 9)).heap.size) := Lib.hid (by have := HK5.out.lt; omega)
        clear hb5 hA5 HTI z0 z1 k0 k1
        go_wp2_with (at_builtin; refine wpList_append_own _ rfl _ _ 43 rfl (w.heap.size + 1) 9 si _ 1 16 Tryz.underlying43 hsi jy0 jy1 jy2 rfl (by decide) _ _ _ rfl hownA ⟨w5.heap.size, 0, none⟩ 1 1 [sv yt] rfl rfl hnews (by simp [Value.oneCell']) (by unfold maxLen; omega) (by omega) HSZ.out ?_; intro v4 w6 hown6 hgrow6 _; obtain ⟨g6, c6, rfl⟩ := ownsRow_succ hown6)
        have HM6 : Hid (m + 1 = (PL (t + 1) ++ PI (t + 1) ++ PP (t + 1) 0).length) := Lib.hid (by rw [HPI.out, List.length_append, ← HM.out]; rfl)
        have HB6 := Lib.hid (HB5.out.grown hgrow6 HB5.out.size (fun k e => by have := (hownA.lt k e).1; omega))
        have HK6 := Lib.hid (HK5.out.grown hgrow6 (fun e => by have := (hownA.lt _ e.symm).1; omega))
        have HO6 : Hid (w6.ownsRow (w.heap.size + 1) 9 1 (.slice (some ⟨g6, 0, none⟩) (m + 1) c6) (m + 1) ((PL (t + 1) ++ PI (t + 1) ++ PP (t + 1) 0).map sv)) := Lib.hid (by rw [HPI.out, List.map_append]; exact hown6)
        clear hown6 hgrow6 hownA hnews HB5 HK5 HSZ
        clear HM HO HK HB
        go_wp2_with fail
        go_loopw [3, 5] (fun ov iv wr => ∃ (j m2 c6 : Nat) (X2 : Option Addr), j ≤ 8 ∧ iv = .int .i64 (j : Int) ∧ ov = .slice X2 m2 c6 ∧ m2 ≤ m + 1 + j ∧ Hid (m2 = (PL (t + 1) ++ PI (t + 1) ++ PP (t + 1) j).length) ∧ Hid (wr.ownsRow (w.heap.size + 1) 9 1 (.slice X2 m2 c6) m2 ((PL (t + 1) ++ PI (t + 1) ++ PP (t + 1) j).map sv)) ∧ Hid (Blk wr w.heap.size 38 #[.slice (some ⟨gz, oz, none⟩) n cA, .slice B n cB]) ∧ Hid (Below w.heap.size w wr)) (fun _ i _ => 8 - (intOf i).toNat)
        case atStart => exact ⟨0, m + 1, c6, _, Nat.zero_le _, rfl, rfl, Nat.le_refl _, HM6, HO6, HK6, HB6⟩
        case round =>
          clear HM6 HO6 HK6 HB6
          obtain ⟨j, m2, c6, X2, hj, rfl, rfl, hm2, HM, HO, HK, HB⟩ := hrel
          have k0 := HK.out.cell 0
          have k1 := HK.out.cell 1
          simp only [List.getElem?_toArray, List.getElem?_cons_zero, List.getElem?_cons_succ] at k0 k1
          by_cases hj8 : j < 8
          · have i2 : (j : Int) < 8 := by omega
            obtain ⟨g, off, rfl, d0⟩ := HRH.out t wr (by omega) HB.out
            have HY : Hid (j + 1 < H.getD t 0 → j + 1 < H9.getD (t + 1) 0) := Lib.hid fun h => by rw [HH0.out.2]; exact h
            have HN : Hid (¬ j + 1 < H.getD t 0 → ¬ j + 1 < H9.getD (t + 1) 0) := Lib.hid fun h => by rw [HH0.out.2]; exact h
            generalize H.getD t 0 = y at d0 HY HN
            have i3 : (0 : Int) ≤ (t : Int) := by omega
            have i4 : (t : Int) < (n : Int) := by omega
            by_cases hy : j + 1 < y
            · have hh1 := HY.out hy
              have hy1 : (j : Int) + 1 < (y : Int) := by omega
              clear HY HN hy
              have HPj : Hid (PL (t + 1) ++ PI (t + 1) ++ PP (t + 1) (j + 1) = PL (t + 1) ++ PI (t + 1) ++ PP (t + 1) j ++ [PT (t + 1) j]) := Lib.hid (by rw [HPY.out _ j hh1]; simp)
              have hT := TO.out j (t + 1) wr hj8 (by omega) HB.out
              rw [show (((t + 1 : Nat)) : Int) - 1 = (t : Int) by omega] at hT
              have HT := Lib.hid hT
              clear hT hh1
              go_wp2_with fail
              refine HT.out.mono ?_
              rintro e w4 ⟨XF, cF, rfl, hoF, hb4⟩
              have HS := Lib.hid (TT.out j (t + 1) XF cF w4 hj8 (by omega) (own_SR' hoF (HML.out j (t + 1))))
              clear hoF HT
              generalize FL j (t + 1) = fl at HS ⊢
              go_wp2_with fail
              refine HS.out.mono ?_
              rintro e w5 ⟨rfl, hb5⟩
              generalize PT (t + 1) j = pt at HPj ⊢
              have hA5 := ba (bt hb4 hb5) (.cells #[sv pt] 9)
              have hownA := own_later HO.out hA5
              have HK5 := Lib.hid (HK.out.below hA5)
              have HB5 := Lib.hid (bt HB.out hA5)
              have hnews := World.news_of_block (heap_alloc_new w5 (.cells #[sv pt] 9))
              have HSZ : Hid (w.heap.size + 1 ≤ (w5.alloc (.cells #[sv pt] 9)).heap.size) := Lib.hid (by have := HK5.out.lt; omega)
              clear hb4 hb5 HS hA5
              go_wp2_with (at_builtin; refine wpList_append_own _ rfl _ _ 43 rfl (w.heap.size + 1) 9 si _ 1 16 Tryz.underlying43 hsi jy0 jy1 jy2 rfl (by decide) _ _ _ rfl hownA ⟨w5.heap.size, 0, none⟩ 1 1 [sv pt] rfl rfl hnews (by simp [Value.oneCell']) (by unfold maxLen; omega) (by omega) HSZ.out ?_; intro v4 w6 hown6 hgrow6 _; obtain ⟨g6, c6, rfl⟩ := ownsRow_succ hown6)
              have HM6 : Hid (m2 + 1 = (PL (t + 1) ++ PI (t + 1) ++ PP (t + 1) (j + 1)).length) := Lib.hid (by rw [HPj.out, List.length_append, ← HM.out]; rfl)
              have HB6 := Lib.hid (HB5.out.grown hgrow6 HB5.out.size (fun k e => by have := (hownA.lt k e).1; omega))
              have HK6 := Lib.hid (HK5.out.grown hgrow6 (fun e => by have := (hownA.lt _ e.symm).1; omega))
              have HO6 : Hid (w6.ownsRow (w.heap.size + 1) 9 1 (.slice (some ⟨g6, 0, none⟩) (m2 + 1) c6) (m2 + 1) ((PL (t + 1) ++ PI (t + 1) ++ PP (t + 1) (j + 1)).map sv)) := Lib.hid (by rw [HPj.out, List.map_append]; exact hown6)
              clear hown6 hgrow6 hownA hnews HB5 HK5 HSZ
              go_wp2_with fail
              exact ⟨⟨j + 1, m2 + 1, c6, _, by omega, by go_num, rfl, by omega, HM6, HO6, HK6, HB6⟩, by simp [intOf]; omega⟩
            · have HPj : Hid (PL (t + 1) ++ PI (t + 1) ++ PP (t + 1) (j + 1) = PL (t + 1) ++ PI (t + 1) ++ PP (t + 1) j) := Lib.hid (by rw [HPN.out _ j (HN.out hy)])
              have hy1 : ¬ (j : Int) + 1 < (y : Int) := by omega
              rw [← HPj.out] at HM HO
              clear HY HN hy
              go_wp2_with fail
              exact ⟨⟨j + 1, m2, c6, X2, by omega, by go_num, rfl, by omega, HM, HO, HK, HB⟩, by simp [intOf]; omega⟩
          · obtain rfl : j = 8 := by omega
            have HE := Lib.hid (HZM.out (t + 1))
            rw [← HE.out] at HM HO
            clear k0 k1
            go_wp2_with fail
            exact ⟨⟨t + 1 + 1, m2, c6, X2, by omega, by go_num, rfl, by omega, HM, HO, HK, HB⟩, by simp [intOf]; omega⟩
      -- end ways
    · obtain rfl : q = n + 1 := by omega
      have i1 : ¬ (((n + 1 : Nat)) : Int) - 1 < (n : Int) := by omega
      have HR := Lib.hid (own_SR' HO.out HM.out.symm)
      clear k1
      go_wp2
      go_ret
      exact ⟨X, m, ⟨c5, rfl⟩, HM.out, by omega, HR.out, HB.out⟩
end Go.Proofs.YtjonhenllhnibaaGreatDoor
/- The contract of twice, where a step has the sum of another text. -/
namespace Go.Proofs.YtjonhenllhnibaaGreatDoor
open Go.RowKit

theorem pall_le {Z : List ItL} {H : List Nat} {m : Nat} (hH : H.length ≤ 65) (hm : m ≤ H.length) (hv : ∀ x ∈ Z, x.2.length ≤ 64) : ∀ t ∈ pall Z (ybase Z) H m, t.length ≤ 4200 := by
  intro t ht
  simp only [pall, List.mem_cons, List.mem_flatMap, List.mem_range, List.mem_append] at ht
  rcases ht with rfl | ⟨q, hq, ht⟩
  · simp
  · rcases ht with ht | ht
    · unfold pallI at ht
      split at ht
      · simp at ht
      · simp only [List.mem_singleton] at ht
        subst ht
        rw [yitem_len]
        by_cases hj : q - 1 < Z.length
        · have := hv (Z.getD (q - 1) (0, [])) (by
            simp only [List.getD, List.getElem?_eq_getElem hj, Option.getD_some]
            exact List.getElem_mem hj)
          omega
        · have e : Z.getD (q - 1) (0, []) = (0, []) := by simp [List.getD, List.getElem?_eq_none (Nat.le_of_not_lt hj)]
          rw [e]
          simp
    · simp only [pallP, List.mem_map, List.mem_filter, List.mem_range] at ht
      obtain ⟨lev, _, rfl⟩ := ht
      have h1 := yfrom_len H lev q (by omega)
      rw [pallT, ytext_len, ytake_flat _ (fun s hs => by obtain ⟨i, _, rfl⟩ := List.mem_map.1 hs; exact ylabb_len Z H lev i), List.length_map]
      omega

set_option maxRecDepth 100000 in
set_option maxHeartbeats 16000000 in
theorem ptwice_yes (key : List UInt8) (A B1 B2 : Option Addr) (n c c1 c2 k : Nat) (s : List UInt8) (Z : List ItL) (G F : List (List (List UInt8))) (w : World) (hkey : key.length ≤ 60000) (hA : IR w A Z) (hl : Z.length = n) (hn : n ≤ 64) (hx : ∀ x ∈ Z, x.1 < 18446744073709551616) (hv : ∀ x ∈ Z, x.2.length ≤ 64)
    (hs : s.length ≤ 64) (hk : k < 18446744073709551616) (hB1 : LR w B1 G) (hB2 : LR w B2 F) (hG : PRt G) (hF : PRt F) (ht : PTwice (k, s) G F (pall Z (ybase Z) (yht key Z) (n + 1))) :
    Calls Tryz.prog 23 #[.string ⟨key.toArray⟩, .slice A n c, piv k s, pfv B1 8 c1 B2 8 c2] w fun e w' => e = .returned (.bool true) ∧ Below w.heap.size w w' := by
  have hb0 := pbx_below w k s B1 8 c1 B2 8 c2
  obtain ⟨q0, q1, q2, q3⟩ := pbx_cells w k s B1 8 c1 B2 8 c2
  have TS := Lib.hid (pSteps_yes B1 B2 c1 c2 k s G F _ hs hk (hB1.later hb0) (hB2.later hb0) hG hF)
  have TL := Lib.hid (fun W (hb : Below w.heap.size w W) => yrlist_any key A n c Z W hkey (hA.later hb) hl (by omega) hx)
  have hHl : (hsL key (ikeys Z)).length = n := by rw [hsL_len, ikeys_len, hl]
  have TA := Lib.hid (fun g cB W (hb : Below w.heap.size w W) (hB : VR vi W (some ⟨g, 0, none⟩) (hsL key (ikeys Z))) => prall_any n c cB A (some ⟨g, 0, none⟩) Z (hsL key (ikeys Z)) W (hA.later hb) hB hl hHl hn hx (fun x hx9 => Nat.le_trans (hv x hx9) (by omega)))
  have HSL : Hid (∀ i, i < 9 → (pstepL (k, s) G F 9).getD i [] = psteps (k, s) G F i) := Lib.hid fun i hi => pstepL_at _ _ _ hi
  have HSn := Lib.hid (pstepL_len (k, s) G F 9)
  have T1 := Lib.hid (fun i W => hrsum_any rwords_holds (psteps (k, s) G F i) W (by have := psteps_le (x := (k, s)) hG hF hs i; omega))
  have T2 := Lib.hid (fun j W (hj : j < (pall Z (ybase Z) (9 :: hsL key (ikeys Z)) (n + 1)).length) => hrsum_any rwords_holds ((pall Z (ybase Z) (9 :: hsL key (ikeys Z)) (n + 1)).getD j []) W (by
    have h1 := pall_le (Z := Z) (H := 9 :: hsL key (ikeys Z)) (m := n + 1) (by rw [List.length_cons, hHl]; omega) (by rw [List.length_cons, hHl]; omega) hv ((pall Z (ybase Z) (9 :: hsL key (ikeys Z)) (n + 1)).getD j []) (by
      simp only [List.getD, List.getElem?_eq_getElem hj, Option.getD_some]
      exact List.getElem_mem hj)
    omega))
  have HTW : Hid (¬ ∀ i, i < 9 → ∀ j, j < (pall Z (ybase Z) (9 :: hsL key (ikeys Z)) (n + 1)).length → ¬ (psteps (k, s) G F i ≠ (pall Z (ybase Z) (9 :: hsL key (ikeys Z)) (n + 1)).getD j [] ∧ hsumL (psteps (k, s) G F i) = hsumL ((pall Z (ybase Z) (9 :: hsL key (ikeys Z)) (n + 1)).getD j []))) := Lib.hid fun h => by
    obtain ⟨m, hm, t, ht1, ht2, ht3⟩ := ht
    obtain ⟨j, hj, rfl⟩ := List.getElem_of_mem (show t ∈ pall Z (ybase Z) (9 :: hsL key (ikeys Z)) (n + 1) from ht1)
    refine h m (by omega) j hj ⟨?_, ?_⟩
    · simpa [List.getD, hj] using ht2
    · simpa [List.getD, hj] using ht3
  clear ht hA hl hx hv hs hk hB1 hB2 hG hF hkey hHl
  generalize pstepL (k, s) G F 9 = SL at *
  generalize psteps (k, s) G F = PS at *
  generalize pall Z (ybase Z) (9 :: hsL key (ikeys Z)) (n + 1) = TT at *
  generalize hsL key (ikeys Z) = HH at *
  have HB0 := Lib.hid hb0
  unfold pbx at *
  go_enter Tryz.func23, Tryz.ntmps23
  go_wp2_with fail
  refine TS.out.mono ?_
  rintro e w1 ⟨XS, cS, rfl, hSS, hb1⟩
  have HSS := Lib.hid hSS
  have HB1 := Lib.hid (bt HB0.out hb1)
  clear hSS hb1 hb0 q0 q1 q2 q3 TS HB0
  go_wp2_with fail
  refine (TL.out _ HB1.out).mono ?_
  rintro e w2 ⟨g, cB, rfl, hV, hb2⟩
  have HS2 := Lib.hid (HSS.out.later hb2)
  have HB2 := Lib.hid (bt HB1.out hb2)
  have HTA := Lib.hid (TA.out g cB w2 HB2.out hV)
  clear hV hb2 HSS HB1
  go_wp2_with fail
  refine HTA.out.mono ?_
  rintro e w3 ⟨XT, m, cT, rfl, hm, hm7, hST, hb3⟩
  have HS3 := Lib.hid (HS2.out.later hb3)
  have HT3 := Lib.hid hST
  have HB3 := Lib.hid (bt HB2.out hb3)
  have HMT := Lib.hid hm
  clear hST hb3 HS2 HB2 HTA hm
  go_wp2_with fail
  go_loopw [30] (fun iv wr => ∃ i : Nat, i ≤ 9 ∧ iv = .int .i64 (i : Int) ∧ Hid (∀ i', i' < i → ∀ j, j < m → ¬ (PS i' ≠ TT.getD j [] ∧ hsumL (PS i') = hsumL (TT.getD j []))) ∧ Hid (SR wr XS SL) ∧ Hid (SR wr XT TT) ∧ Hid (Below w.heap.size w wr)) (fun i _ => 9 - (intOf i).toNat)
  case atStart => exact ⟨0, Nat.zero_le _, rfl, Lib.hid (fun i hi => absurd hi (Nat.not_lt_zero _)), HS3, HT3, HB3⟩
  case round =>
    clear HS3 HT3 HB3
    obtain ⟨i, hi, rfl, HNO, HS, HT, HB⟩ := hrel
    by_cases hlt : i < 9
    · obtain ⟨gs, os, rfl, c0⟩ := HS.out i (by rw [HSn.out]; exact hlt)
      rw [HSL.out i hlt] at c0
      have i0 : (0 : Int) ≤ (i : Int) := by omega
      have i1 : (i : Int) < 9 := by omega
      go_wp2_with fail
      clear c0
      go_loopw [36] (fun jv wr => ∃ j : Nat, j ≤ m ∧ jv = .int .i64 (j : Int) ∧ Hid (∀ j', j' < j → ¬ (PS i ≠ TT.getD j' [] ∧ hsumL (PS i) = hsumL (TT.getD j' []))) ∧ Hid (SR wr (some ⟨gs, os, none⟩) SL) ∧ Hid (SR wr XT TT) ∧ Hid (Below w.heap.size w wr)) (fun j _ => m - (intOf j).toNat)
      case atStart => exact ⟨0, Nat.zero_le _, rfl, Lib.hid (fun j hj => absurd hj (Nat.not_lt_zero _)), HS, HT, HB⟩
      case round =>
        clear HS HT HB
        obtain ⟨j, hj, rfl, HNJ, HS, HT, HB⟩ := hrel
        by_cases hlt2 : j < m
        · obtain ⟨gt, ot, rfl, c1⟩ := HT.out j (by rw [← HMT.out]; exact hlt2)
          have TSi := Lib.hid (T1.out i)
          have TTj := Lib.hid (fun W => T2.out j W (by rw [← HMT.out]; exact hlt2))
          have HX : Hid (¬ (PS i ≠ TT.getD j [] ∧ hsumL (PS i) = hsumL (TT.getD j [])) → ∀ j', j' < j + 1 → ¬ (PS i ≠ TT.getD j' [] ∧ hsumL (PS i) = hsumL (TT.getD j' []))) := Lib.hid fun h j' hj' => by
            by_cases e : j' = j
            · rw [e]; exact h
            · exact HNJ.out j' (by omega)
          have j0 : (0 : Int) ≤ (j : Int) := by omega
          have j1 : (j : Int) < (m : Int) := by omega
          generalize TT.getD j [] = y at c1 TTj HX
          obtain ⟨x, hxx⟩ : ∃ x, PS i = x := ⟨_, rfl⟩
          rw [hxx] at TSi HX ⊢
          by_cases hxy : x = y
          · have HX2 := Lib.hid (HX.out fun h => h.1 hxy)
            subst hxy
            clear HX TSi TTj
            go_wp2_with fail
            exact ⟨⟨j + 1, by omega, by go_num, HX2, HS, HT, HB⟩, by simp [intOf]; omega⟩
          · have hx2 : (x == y) = false := by simp only [beq_eq_false_iff_ne]; exact hxy
            have hx3 : (x != y) = true := by simp [bne, hx2]
            by_cases hss : hsumL x = hsumL y
            · rw [hss] at TSi
              clear HX hxy
              generalize hsumL y = z at *
              go_wp2_with fail
              refine (TSi.out _).mono ?_
              rintro e w4 ⟨rfl, hb4⟩
              go_wp2_with fail
              refine (TTj.out _).mono ?_
              rintro e w5 ⟨rfl, hb5⟩
              have hb6 := bt HB.out (bt hb4 hb5)
              go_wp2
              go_ret
              exact ⟨rfl, hb6⟩
            · have HX2 := Lib.hid (HX.out fun h => hss h.2)
              have hz2 : (hsumL x == hsumL y) = false := by simp only [beq_eq_false_iff_ne]; exact hss
              clear HX hxy hss
              generalize hsumL x = zx at TSi hz2 HX2 ⊢
              generalize hsumL y = zy at TTj hz2
              go_wp2_with fail
              refine (TSi.out _).mono ?_
              rintro e w4 ⟨rfl, hb4⟩
              go_wp2_with fail
              refine (TTj.out _).mono ?_
              rintro e w5 ⟨rfl, hb5⟩
              have hb6 := bt hb4 hb5
              have HS6 := Lib.hid (HS.out.later hb6)
              have HT6 := Lib.hid (HT.out.later hb6)
              have HB6 := Lib.hid (bt HB.out hb6)
              clear hb4 hb5 hb6 HS HT HB
              go_wp2_with fail
              exact ⟨⟨j + 1, by omega, by go_num, HX2, HS6, HT6, HB6⟩, by simp [intOf]; omega⟩
        · obtain rfl : j = m := by omega
          have HNO2 : Hid (∀ i', i' < i + 1 → ∀ j', j' < j → ¬ (PS i' ≠ TT.getD j' [] ∧ hsumL (PS i') = hsumL (TT.getD j' []))) := Lib.hid fun i' hi' => by
            by_cases e : i' = i
            · rw [e]; exact HNJ.out
            · exact HNO.out i' (by omega)
          go_wp2_with fail
          exact ⟨⟨i + 1, by omega, by go_num, HNO2, HS, HT, HB⟩, by simp [intOf]; omega⟩
    · obtain rfl : i = 9 := by omega
      exact absurd (fun i' hi' j hj => HNO.out i' hi' j (by rw [HMT.out]; exact hj)) HTW.out
end Go.Proofs.YtjonhenllhnibaaGreatDoor
