/- Texts of this seat, one behind the other: YNext. -/
import Derived.Deep.RegionHeld3
import Derived.Test.YtjonhenllhnibaaGreatDoorQ15
import Derived.Test.YtjonhenllhnibaaGreatDoorQ16
import Derived.Test.YtjonhenllhnibaaGreatDoorQ24
import Derived.Test.YtjonhenllhnibaaGreatDoorQ25
/- The contract of nextRow. -/
namespace Go.Proofs.YtjonhenllhnibaaGreatDoor
open Go.RowKit

theorem yrow_result {fn : Func} {p : Tmp} {tmps : Array Value} {W : World} {g : Nat} {x y : Value} (h : fn.results = #[.cell p 85]) (hb : Blk W g 85 #[x, y]) (hp : tmps.getD p undef = .pointer (some ⟨g, 0, none⟩) := by rfl) :
    (results fn tmps).run Tryz.prog W = .ok (.agg #[x, y]) W := by
  have q0 := hb.cell 0
  have q1 := hb.cell 1
  simp only [List.getElem?_toArray, List.getElem?_cons_zero, List.getElem?_cons_succ] at q0 q1
  simp only [Array.getD_eq_getD_getElem?] at hp
  simp [results, h, go_sem, hp, q0, q1]
theorem SR.kp {w w' : World} {A : Option Addr} {L : List (List UInt8)} (h : SR w A L) (hA : ∀ a, A = some a → w'.heap[a.block]? = w.heap[a.block]?) : SR w' A L := fun j hj => by
  obtain ⟨g, off, e, h0⟩ := h j hj
  exact ⟨g, off, e, (World.cell?_of_block (a := ⟨g, off + j, none⟩) (show w'.heap[g]? = w.heap[g]? from hA _ e)).trans h0⟩

set_option maxRecDepth 100000 in
set_option maxHeartbeats 8000000 in
theorem ynext_any (lev n cA cB : Nat) (A B : Option Addr) (L : List (List UInt8)) (V : List Nat) (w : World) (hlev : lev ≤ 8) (hA : SR w A L) (hB : VR vi w B V) (hl : L.length = n) (hv : V.length = n) (hcA : n ≤ cA) (hcB : n ≤ cB) (hn : n ≤ 1024) (h32 : ∀ x ∈ L, x.length = 32) (hP : 1 ≤ (yhi V lev n).length) :
    Calls Tryz.prog 56 #[.agg #[.slice A n cA, .slice B n cB], .int .i64 (lev : Int)] w fun e w' => ∃ A' c' B' d', e = .returned (.agg #[.slice A' (yhi V lev n).length c', .slice B' (yhi V lev n).length d']) ∧ (yhi V lev n).length ≤ c' ∧ (yhi V lev n).length ≤ d' ∧ (∀ a, A' = some a → w.heap.size ≤ a.block) ∧ SR w' A' ((ycut L (yhi V lev n)).map (yjoin lev)) ∧ VR vi w' B' ((ycut V (yhi V lev n)).map fun g => g.getD 0 0) ∧ Below w.heap.size w w' := by
  obtain ⟨ti, hti, hz0, hz1, hz2⟩ := info_parts infoVI
  obtain ⟨si, hsi, jy0, jy1, jy2⟩ := info_parts infoS
  have hr := yhi_rise V lev n
  have hmn := yhi_len V lev n
  have TH := Lib.hid (fun W (hb : Below w.heap.size w W) => yhigher_any B n cB lev V W (hB.later hb) hv (by omega))
  have hcl := ycut_len L (yhi V lev n)
  have hcv := ycut_len V (yhi V lev n)
  have hpc := fun i hi => ycut_at L (yhi V lev n) i hi
  have hpv := fun i hi => ycut_at V (yhi V lev n) i hi
  rw [hl] at hpc
  rw [hv] at hpv
  generalize yhi V lev n = P at *
  obtain ⟨m, hm⟩ : ∃ m, P.length = m := ⟨_, rfl⟩
  rw [hm] at hcl hcv hpc hpv hP hmn ⊢
  obtain ⟨gA, oA, rfl, _⟩ := hA 0 (by omega)
  obtain ⟨gB, oB, rfl, _⟩ := hB 0 (by omega)
  -- the labels' row to come
  have HTL : Hid (((ycut L P).map (yjoin lev)).length = m) := Lib.hid (by rw [List.length_map, hcl])
  have HTA : Hid (∀ j, j < m → ((ycut L P).map (yjoin lev)).getD j [] = yjoin lev ((ycut L P).getD j [])) := Lib.hid fun j hj => by
    have : j < (ycut L P).length := by omega
    simp [List.getD, this]
  have HJ : Hid (∀ j W, j < m → Below w.heap.size w W → Calls Tryz.prog 82 #[.int .i64 (lev : Int), ypc gA oA cA P n j] W fun e w' => e = .returned (.string ⟨(((ycut L P).map (yjoin lev)).getD j []).toArray⟩) ∧ Below W.heap.size W w') := Lib.hid fun j W hj hb => by
    have hrj := hr j (by omega)
    rw [HTA.out j hj, hpc j hj]
    have hp1 := ((hA.take (yend P n j)).drop (P.getD j 0)).later hb
    have hp2 := ypiece_len L (P.getD j 0) (yend P n j) (by omega)
    exact yjn_any lev _ _ _ _ W hlev hp1 hp2 (by omega) (by omega) (by omega) (by
      rw [ytake_flat _ fun x hx => h32 x (List.mem_of_mem_take (List.mem_of_mem_drop hx)), hp2]
      omega)
  -- the heights' row to come
  have HVL : Hid (((ycut V P).map fun g => g.getD 0 0).length = m) := Lib.hid (by rw [List.length_map, hcv])
  have HVA : Hid (∀ j W, j < m → Below w.heap.size w W → W.cell? ⟨gB, oB + P.getD j 0, none⟩ = some (vi (((ycut V P).map fun g => g.getD 0 0).getD j 0))) := Lib.hid fun j W hj hb => by
    have hrj := hr j (by omega)
    have : j < (ycut V P).length := by omega
    have e : ((ycut V P).map fun g => g.getD 0 0).getD j 0 = ((ycut V P).getD j []).getD 0 0 := by simp [List.getD, this]
    rw [e, hpv j hj, ypiece_at V _ _ _ (by omega), Nat.add_zero]
    obtain ⟨g, off, e2, h2⟩ := (hB.later hb) (P.getD j 0) (by omega)
    injection e2 with e2
    injection e2 with e3 e4
    subst e3 e4
    exact h2
  generalize (ycut L P).map (yjoin lev) = T at *
  generalize (ycut V P).map (fun g => g.getD 0 0) = U at *
  clear hcl hcv hpc hpv hA hB h32
  go_enter Tryz.func56, Tryz.ntmps56
  -- the blocks ahead of the first loop
  have hb0 := ba (ba (Below.refl w.heap.size w) (.cells #[.slice (some ⟨gA, oA, none⟩) n cA, .slice (some ⟨gB, oB, none⟩) n cB] 85)) (.cells #[.slice none 0 0, .slice none 0 0] 85)
  have hk0 := (Blk.new w 85 #[.slice (some ⟨gA, oA, none⟩) n cA, .slice (some ⟨gB, oB, none⟩) n cB]).alloc (.cells #[.slice none 0 0, .slice none 0 0] 85)
  have hk1 : Blk ((w.alloc (.cells #[.slice (some ⟨gA, oA, none⟩) n cA, .slice (some ⟨gB, oB, none⟩) n cB] 85)).alloc (.cells #[.slice none 0 0, .slice none 0 0] 85)) (w.heap.size + 1) 85 #[.slice none 0 0, .slice none 0 0] := Blk.newAt (by simp) _ _
  go_wp2_with fail
  refine (TH.out _ hb0).mono ?_
  rintro e w1 ⟨B1, d1, m1, hm1, rfl, hown1, hb1⟩
  obtain rfl : m = m1 := (hm1.trans hm).symm
  clear hm1
  have hsz1 := hb1.size
  simp only [World.size_alloc] at hsz1
  have k0 := hk0.below hb1
  have k1 := hk1.below hb1
  have hv1 : VR vi w1 B1 P := own_VR hown1 hm
  have HBL : Hid (∀ a, B1 = some a → a.block < w1.heap.size) := Lib.hid fun a e => by
    obtain ⟨g, off, e2, h2⟩ := hv1 0 (by omega)
    rw [e] at e2
    cases e2
    exact World.block_lt_of_cell? _ _ h2
  have c0 := k0.cell 0
  have c1 := k0.cell 1
  simp only [List.getElem?_toArray, List.getElem?_cons_zero, List.getElem?_cons_succ] at c0 c1
  have HB1 := Lib.hid (bt hb0 hb1)
  clear hb0 hk0 hk1 hb1
  obtain ⟨w2, hw2⟩ : ∃ w2, w1.alloc (.cells #[.slice none 0 0, .slice none 0 0] 85) = w2 := ⟨_, rfl⟩
  have HW2 := Lib.hid hw2
  have HB2 : Hid (Below w.heap.size w w2) := Lib.hid (by rw [← hw2]; exact ba HB1.out _)
  have HV2 : Hid (VR vi w2 B1 P) := Lib.hid (by rw [← hw2]; exact hv1.later (ba (Below.refl _ _) _))
  have HK2 : Hid (Blk w2 w.heap.size 85 #[.slice (some ⟨gA, oA, none⟩) n cA, .slice (some ⟨gB, oB, none⟩) n cB] ∧ Blk w2 (w.heap.size + 1) 85 #[.slice none 0 0, .slice none 0 0] ∧ Blk w2 w1.heap.size 85 #[.slice none 0 0, .slice none 0 0]) := Lib.hid (by rw [← hw2]; exact ⟨k0.alloc _, k1.alloc _, Blk.new _ _ _⟩)
  have HS2 : Hid (w2.heap.size = w1.heap.size + 1 ∧ w.heap.size + 2 ≤ w1.heap.size) := Lib.hid (by rw [← hw2]; exact ⟨World.size_alloc _ _, by omega⟩)
  have hc2 : w2.cell? ⟨w.heap.size, 0, none⟩ = some (.slice (some ⟨gA, oA, none⟩) n cA) := HK2.out.1.cell 0
  rw [← HW2.out] at hc2
  have TC := Lib.hid (ycutS_any gA oA n cA B1 m d1 P w2 hcA (by omega) HV2.out hm hP hr)
  clear k0 k1 hown1 hv1 hw2
  go_wp2_with fail
  rw [HW2.out]
  refine TC.out.mono ?_
  rintro e w3 ⟨rfl, hk3, hb3⟩
  obtain ⟨bn, hbn⟩ : ∃ bn, w1.heap.size = bn := ⟨_, rfl⟩
  obtain ⟨hp, hhp⟩ : ∃ hp, w2.heap.size + 1 = hp := ⟨_, rfl⟩
  rw [hhp] at hk3
  have HS3 : Hid (w.heap.size + 2 ≤ bn ∧ bn < hp ∧ hp < w3.heap.size) := Lib.hid (by have h1 := HS2.out; have h2 := hk3.lt; omega)
  rw [hbn] at HK2 HBL
  have HK3 : Hid (Blk w3 w.heap.size 85 #[.slice (some ⟨gA, oA, none⟩) n cA, .slice (some ⟨gB, oB, none⟩) n cB] ∧ Blk w3 (w.heap.size + 1) 85 #[.slice none 0 0, .slice none 0 0] ∧ Blk w3 bn 85 #[.slice none 0 0, .slice none 0 0] ∧ Blk w3 hp 43 (ypcs gA oA cA P n m m).toArray) := Lib.hid ⟨HK2.out.1.below hb3, HK2.out.2.1.below hb3, HK2.out.2.2.below hb3, hk3⟩
  have HB3 := Lib.hid (bt HB2.out hb3)
  have HV3 := Lib.hid (HV2.out.later hb3)
  clear hk3 hb3 c0 c1 hc2 HW2 TC HB1 HB2 HV2 HK2
  rw [hhp]
  rw [hbn]
  clear hhp hbn
  go_wp2_with fail
  go_loopw [20] (fun iv wr => ∃ (j c : Nat) (X : Option Addr), j ≤ m ∧ iv = .int .i64 (j : Int) ∧ Hid (KpS (fun k => k < w3.heap.size ∧ k ≠ bn) w3 wr) ∧ Hid (Blk wr bn 85 #[.slice X j c, .slice none 0 0]) ∧ Hid (wr.ownsRow w3.heap.size 9 1 (.slice X j c) j ((T.take j).map sv)) ∧ Hid (Below w.heap.size w wr)) (fun i _ => m - (intOf i).toNat)
  case atStart => exact ⟨0, 0, none, Nat.zero_le _, rfl, Lib.hid (KpS.refl _ _), Lib.hid HK3.out.2.2.1, Lib.hid (World.ownsRow_nil _ _ _ _), HB3⟩
  case round =>
    obtain ⟨j, c, X, hj, rfl, HKP, HKB, HO, HB⟩ := hrel
    by_cases hlt : j < m
    · have d0 : wr.cell? ⟨hp, j, none⟩ = some (ypc gA oA cA P n j) := by
        rw [HKP.out.at_ (a := ⟨hp, j, none⟩) (show hp < w3.heap.size ∧ hp ≠ bn by have := HS3.out; omega), HK3.out.2.2.2.cell j, List.getElem?_toArray, ypcs_at _ _ _ _ _ _ _ hlt]
      have HJj := Lib.hid (fun W hb => HJ.out j W hlt hb)
      generalize ypc gA oA cA P n j = u at d0 HJj
      obtain ⟨x, hxx⟩ : ∃ x, T.getD j [] = x := ⟨_, rfl⟩
      rw [hxx] at HJj
      have i0 : (0 : Int) ≤ (j : Int) := by omega
      have i1 : (j : Int) < (m : Int) := by omega
      have c0 := HKB.out.cell 0
      have f0 := HKB.out.frozen 0
      simp only [List.getElem?_toArray, List.getElem?_cons_zero] at c0
      have HTS : Hid ((T.take (j + 1)).map sv = (T.take j).map sv ++ [sv x]) := Lib.hid (by
        rw [← hxx, List.take_add_one, List.map_append]
        have : j < T.length := by rw [HTL.out]; exact hlt
        simp [List.getD, this])
      clear hxx
      go_wp2_with fail
      -- region 6
      refine wp_region_held_drew (S := fun _ => True) (by kernel_rfl) trivial (fun hHeld => ?_)
      refine wpAnyH_take (i := 0) (oi := ⟨some 24, _, _, _, _, _⟩) (v := ?_) rfl (by kernel_rfl) (by kernel_rfl) (by kernel_rfl) (fun _ _ _ h => h) (Or.inl ⟨by rfl, ?_⟩) (by assumption) ?_
      rotate_left
      · (intro w9 hSw; (try dsimp only at hSw); go_simp; try with_reducible rfl)
      try simp only [Act.put, List.setIfInBounds_toArray, List.set_cons_zero, List.set_cons_succ]
      refine wpAnyH_take (i := 2) (oi := ⟨some 26, _, _, _, _, _⟩) (v := ?_) rfl (by kernel_rfl) (by kernel_rfl) (by kernel_rfl) (fun _ _ _ h => h) (Or.inl ⟨by rfl, ?_⟩) (by assumption) ?_
      rotate_left
      · (intro w9 hSw; (try dsimp only at hSw); go_simp; try with_reducible rfl)
      try simp only [Act.put, List.setIfInBounds_toArray, List.set_cons_zero, List.set_cons_succ]
      refine wpAnyH_take (i := 3) (oi := ⟨some 27, _, _, _, _, _⟩) (v := ?_) rfl (by kernel_rfl) (by kernel_rfl) (by kernel_rfl) (fun _ _ _ h => h) (Or.inl ⟨by rfl, ?_⟩) (by assumption) ?_
      rotate_left
      · (intro w9 hSw; (try dsimp only at hSw); go_simp; try with_reducible rfl)
      try simp only [Act.put, List.setIfInBounds_toArray, List.set_cons_zero, List.set_cons_succ]
      refine wpAnyH_ready (rs := [1, 4]) (by kernel_rfl) (by simp) ?_
      refine AllReadyH.cons (o := ⟨some 25, _, _, _, _, _⟩) rfl (fun K9 hK9 => ?_) ?_
      · skip
        go_simp
        refine hK9.out _ _ ?_ (fun hHeld => ?_)
        · trivial
        clear hK9 K9
        try simp only [Act.put, List.setIfInBounds_toArray, List.set_cons_zero, List.set_cons_succ]
        refine wpAnyH_ready (rs := [4]) (by kernel_rfl) (by simp) ?_
        refine AllReadyH.cons (o := ⟨some 28, _, _, _, _, _⟩) rfl (fun K9 hK9 => ?_) AllReadyH.nil
        go_simp; go_at_call 82
        refine (HJj.out _ HB.out.drew).mono ?_
        rintro e wa ⟨rfl, hba⟩
        have K1 := (show Blk wr.drew bn 85 #[.slice X j c, .slice none 0 0] from HKB.out).below hba
        have c1 := K1.cell 0
        have Q1 : KpS (fun k => k < w3.heap.size ∧ k ≠ bn) w3 wa := (show KpS (fun k => k < w3.heap.size ∧ k ≠ bn) w3 wr.drew from HKP.out).trans (KpS.of_below hba (fun k hk => Nat.lt_of_lt_of_le hk.1 HKP.out.1))
        have B1' := bt HB.out.drew hba
        have O1 := own_later (show wr.drew.ownsRow w3.heap.size 9 1 (.slice X j c) j ((T.take j).map sv) from HO.out) hba
        refine hK9.out _ _ ?_ (fun hHeld => ?_)
        · trivial
        clear hK9 K9
        try simp only [Act.put, List.setIfInBounds_toArray, List.set_cons_zero, List.set_cons_succ]
        refine wpAnyH_ready (rs := [5]) (by kernel_rfl) (by simp) ?_
        refine AllReadyH.cons (o := ⟨some 29, _, _, _, _, _⟩) rfl (fun K9 hK9 => ?_) AllReadyH.nil
        go_simp
        have K2 := K1.alloc (.cells #[sv x] 9)
        have c2 := K2.cell 0
        have Q2 := Q1.trans (KpS.alloc wa (.cells #[sv x] 9) (fun k hk => Nat.lt_of_lt_of_le hk.1 Q1.1))
        have B2 := ba B1' (.cells #[sv x] 9)
        have O2 := O1.alloc (.cells #[sv x] 9)
        refine hK9.out _ _ ?_ (fun hHeld => ?_)
        · trivial
        clear hK9 K9
        try simp only [Act.put, List.setIfInBounds_toArray, List.set_cons_zero, List.set_cons_succ]
        refine wpAnyH_ready (rs := [6]) (by kernel_rfl) (by simp) ?_
        refine AllReadyH.cons (o := ⟨some 30, _, _, _, _, _⟩) rfl (fun K9 hK9 => ?_) AllReadyH.nil
        refine step_append_lies _ (by rfl) _ _ _ (by rfl) w3.heap.size 9 si (.string ⟨#[]⟩) 1 16 Tryz.underlying43 hsi jy0 jy1 jy2 rfl (by omega) (.slice X j c) j ((T.take j).map sv) (by rfl) O2 ⟨wa.heap.size, 0, none⟩ 1 1 [sv x] (by rfl) rfl (World.news_of_block (heap_alloc_new wa (.cells #[sv x] 9))) (by simp [Value.oneCell']) (by omega) (by unfold maxLen; omega) (by omega) Q2.1 (wa.heap.size + 1) (by simp) ?_
        intro gg cap w5 hown5 hgrow hat hlt5
        have K5 : Blk w5 bn 85 #[.slice X j c, .slice none 0 0] := (hgrow.block _ K2.lt (fun e => by have h1 := (O2.lt _ e.symm).1; have h2 := HS3.out; omega)).trans K2
        have c5 := K5.cell 0
        have f5 := K5.frozen 0
        have Q5 := Q2.trans (KpS.grown (S := (fun k => k < w3.heap.size ∧ k ≠ bn)) hgrow (fun k hk => Nat.lt_of_lt_of_le hk.1 Q2.1) (fun k e hk => by have h1 := (O2.lt k e).1; have h2 := hk.1; omega))
        have B5 := B2.grown hgrow B2.size (fun k e => by have h1 := (O2.lt k e).1; have h2 := HB3.out.size; omega)
        have Q6 := Lib.hid (Q5.trans (KpS.set_ (S := (fun k => k < w3.heap.size ∧ k ≠ bn)) (g := bn) (o := 0) (v := .slice (some ⟨gg, 0, none⟩) (j + 1) cap) (fun h => h.2 rfl)))
        have B6 := Lib.hid (bs (b := bn) (o := 0) B5 (by have := HS3.out.1; omega) (.slice (some ⟨gg, 0, none⟩) (j + 1) cap))
        have K6 := Lib.hid (K5.set_ 0 (.slice (some ⟨gg, 0, none⟩) (j + 1) cap))
        have O6 : Hid ((w5.setCell ⟨bn, 0, none⟩ (.slice (some ⟨gg, 0, none⟩) (j + 1) cap)).ownsRow w3.heap.size 9 1 (.slice (some ⟨gg, 0, none⟩) (j + 1) cap) (j + 1) ((T.take (j + 1)).map sv)) := Lib.hid (by rw [HTS.out]; exact yown_far hown5 (by have := HS3.out; omega) _)
        clear hown5 hgrow hat hlt5 Q5 B5 O2 B2 Q2 K2 c2 K5
        refine hK9.out _ _ ?_ (fun hHeld => ?_)
        · trivial
        clear hK9 K9
        try simp only [Act.put, List.setIfInBounds_toArray, List.set_cons_zero, List.set_cons_succ]
        refine wpAnyH_take (i := 7) (oi := ⟨some 31, _, _, _, _, _⟩) (v := ?_) rfl (by kernel_rfl) (by kernel_rfl) (by kernel_rfl) (fun _ _ _ h => h) (Or.inl ⟨by rfl, ?_⟩) (by assumption) ?_
        rotate_left
        · (intro w9 hSw; (try dsimp only at hSw); go_simp; try with_reducible rfl)
        try simp only [Act.put, List.setIfInBounds_toArray, List.set_cons_zero, List.set_cons_succ]
        refine wpAnyH_ready (rs := [8]) (by kernel_rfl) (by simp) ?_
        refine AllReadyH.cons (o := ⟨none, _, _, _, _, _⟩) rfl (fun K9 hK9 => ?_) AllReadyH.nil
        go_simp
        refine hK9.out _ _ ?_ (fun hHeld => ?_)
        · trivial
        clear hK9 K9
        try simp only [Act.put]
        refine wpAnyH_done (by kernel_rfl) ?_ _
        go_wp2_with fail
        exact ⟨⟨j + 1, cap, _, by omega, by go_num, Q6, K6, O6, B6⟩, by simp [intOf]; omega⟩
      refine AllReadyH.cons (o := ⟨some 28, _, _, _, _, _⟩) rfl (fun K9 hK9 => ?_) AllReadyH.nil
      · skip
        go_simp; go_at_call 82
        refine (HJj.out _ HB.out.drew).mono ?_
        rintro e wa ⟨rfl, hba⟩
        have K1 := (show Blk wr.drew bn 85 #[.slice X j c, .slice none 0 0] from HKB.out).below hba
        have c1 := K1.cell 0
        have Q1 : KpS (fun k => k < w3.heap.size ∧ k ≠ bn) w3 wa := (show KpS (fun k => k < w3.heap.size ∧ k ≠ bn) w3 wr.drew from HKP.out).trans (KpS.of_below hba (fun k hk => Nat.lt_of_lt_of_le hk.1 HKP.out.1))
        have B1' := bt HB.out.drew hba
        have O1 := own_later (show wr.drew.ownsRow w3.heap.size 9 1 (.slice X j c) j ((T.take j).map sv) from HO.out) hba
        refine hK9.out _ _ ?_ (fun hHeld => ?_)
        · trivial
        clear hK9 K9
        try simp only [Act.put, List.setIfInBounds_toArray, List.set_cons_zero, List.set_cons_succ]
        refine wpAnyH_ready (rs := [1, 5]) (by kernel_rfl) (by simp) ?_
        refine AllReadyH.cons (o := ⟨some 25, _, _, _, _, _⟩) rfl (fun K9 hK9 => ?_) ?_
        · skip
          go_simp
          refine hK9.out _ _ ?_ (fun hHeld => ?_)
          · trivial
          clear hK9 K9
          try simp only [Act.put, List.setIfInBounds_toArray, List.set_cons_zero, List.set_cons_succ]
          refine wpAnyH_ready (rs := [5]) (by kernel_rfl) (by simp) ?_
          refine AllReadyH.cons (o := ⟨some 29, _, _, _, _, _⟩) rfl (fun K9 hK9 => ?_) AllReadyH.nil
          go_simp
          have K2 := K1.alloc (.cells #[sv x] 9)
          have c2 := K2.cell 0
          have Q2 := Q1.trans (KpS.alloc wa (.cells #[sv x] 9) (fun k hk => Nat.lt_of_lt_of_le hk.1 Q1.1))
          have B2 := ba B1' (.cells #[sv x] 9)
          have O2 := O1.alloc (.cells #[sv x] 9)
          refine hK9.out _ _ ?_ (fun hHeld => ?_)
          · trivial
          clear hK9 K9
          try simp only [Act.put, List.setIfInBounds_toArray, List.set_cons_zero, List.set_cons_succ]
          refine wpAnyH_ready (rs := [6]) (by kernel_rfl) (by simp) ?_
          refine AllReadyH.cons (o := ⟨some 30, _, _, _, _, _⟩) rfl (fun K9 hK9 => ?_) AllReadyH.nil
          refine step_append_lies _ (by rfl) _ _ _ (by rfl) w3.heap.size 9 si (.string ⟨#[]⟩) 1 16 Tryz.underlying43 hsi jy0 jy1 jy2 rfl (by omega) (.slice X j c) j ((T.take j).map sv) (by rfl) O2 ⟨wa.heap.size, 0, none⟩ 1 1 [sv x] (by rfl) rfl (World.news_of_block (heap_alloc_new wa (.cells #[sv x] 9))) (by simp [Value.oneCell']) (by omega) (by unfold maxLen; omega) (by omega) Q2.1 (wa.heap.size + 1) (by simp) ?_
          intro gg cap w5 hown5 hgrow hat hlt5
          have K5 : Blk w5 bn 85 #[.slice X j c, .slice none 0 0] := (hgrow.block _ K2.lt (fun e => by have h1 := (O2.lt _ e.symm).1; have h2 := HS3.out; omega)).trans K2
          have c5 := K5.cell 0
          have f5 := K5.frozen 0
          have Q5 := Q2.trans (KpS.grown (S := (fun k => k < w3.heap.size ∧ k ≠ bn)) hgrow (fun k hk => Nat.lt_of_lt_of_le hk.1 Q2.1) (fun k e hk => by have h1 := (O2.lt k e).1; have h2 := hk.1; omega))
          have B5 := B2.grown hgrow B2.size (fun k e => by have h1 := (O2.lt k e).1; have h2 := HB3.out.size; omega)
          have Q6 := Lib.hid (Q5.trans (KpS.set_ (S := (fun k => k < w3.heap.size ∧ k ≠ bn)) (g := bn) (o := 0) (v := .slice (some ⟨gg, 0, none⟩) (j + 1) cap) (fun h => h.2 rfl)))
          have B6 := Lib.hid (bs (b := bn) (o := 0) B5 (by have := HS3.out.1; omega) (.slice (some ⟨gg, 0, none⟩) (j + 1) cap))
          have K6 := Lib.hid (K5.set_ 0 (.slice (some ⟨gg, 0, none⟩) (j + 1) cap))
          have O6 : Hid ((w5.setCell ⟨bn, 0, none⟩ (.slice (some ⟨gg, 0, none⟩) (j + 1) cap)).ownsRow w3.heap.size 9 1 (.slice (some ⟨gg, 0, none⟩) (j + 1) cap) (j + 1) ((T.take (j + 1)).map sv)) := Lib.hid (by rw [HTS.out]; exact yown_far hown5 (by have := HS3.out; omega) _)
          clear hown5 hgrow hat hlt5 Q5 B5 O2 B2 Q2 K2 c2 K5
          refine hK9.out _ _ ?_ (fun hHeld => ?_)
          · trivial
          clear hK9 K9
          try simp only [Act.put, List.setIfInBounds_toArray, List.set_cons_zero, List.set_cons_succ]
          refine wpAnyH_take (i := 7) (oi := ⟨some 31, _, _, _, _, _⟩) (v := ?_) rfl (by kernel_rfl) (by kernel_rfl) (by kernel_rfl) (fun _ _ _ h => h) (Or.inl ⟨by rfl, ?_⟩) (by assumption) ?_
          rotate_left
          · (intro w9 hSw; (try dsimp only at hSw); go_simp; try with_reducible rfl)
          try simp only [Act.put, List.setIfInBounds_toArray, List.set_cons_zero, List.set_cons_succ]
          refine wpAnyH_ready (rs := [8]) (by kernel_rfl) (by simp) ?_
          refine AllReadyH.cons (o := ⟨none, _, _, _, _, _⟩) rfl (fun K9 hK9 => ?_) AllReadyH.nil
          go_simp
          refine hK9.out _ _ ?_ (fun hHeld => ?_)
          · trivial
          clear hK9 K9
          try simp only [Act.put]
          refine wpAnyH_done (by kernel_rfl) ?_ _
          go_wp2_with fail
          exact ⟨⟨j + 1, cap, _, by omega, by go_num, Q6, K6, O6, B6⟩, by simp [intOf]; omega⟩
        refine AllReadyH.cons (o := ⟨some 29, _, _, _, _, _⟩) rfl (fun K9 hK9 => ?_) AllReadyH.nil
        · skip
          go_simp
          have K2 := K1.alloc (.cells #[sv x] 9)
          have c2 := K2.cell 0
          have Q2 := Q1.trans (KpS.alloc wa (.cells #[sv x] 9) (fun k hk => Nat.lt_of_lt_of_le hk.1 Q1.1))
          have B2 := ba B1' (.cells #[sv x] 9)
          have O2 := O1.alloc (.cells #[sv x] 9)
          refine hK9.out _ _ ?_ (fun hHeld => ?_)
          · trivial
          clear hK9 K9
          try simp only [Act.put, List.setIfInBounds_toArray, List.set_cons_zero, List.set_cons_succ]
          refine wpAnyH_ready (rs := [1]) (by kernel_rfl) (by simp) ?_
          refine AllReadyH.cons (o := ⟨some 25, _, _, _, _, _⟩) rfl (fun K9 hK9 => ?_) AllReadyH.nil
          go_simp
          refine hK9.out _ _ ?_ (fun hHeld => ?_)
          · trivial
          clear hK9 K9
          try simp only [Act.put, List.setIfInBounds_toArray, List.set_cons_zero, List.set_cons_succ]
          refine wpAnyH_ready (rs := [6]) (by kernel_rfl) (by simp) ?_
          refine AllReadyH.cons (o := ⟨some 30, _, _, _, _, _⟩) rfl (fun K9 hK9 => ?_) AllReadyH.nil
          refine step_append_lies _ (by rfl) _ _ _ (by rfl) w3.heap.size 9 si (.string ⟨#[]⟩) 1 16 Tryz.underlying43 hsi jy0 jy1 jy2 rfl (by omega) (.slice X j c) j ((T.take j).map sv) (by rfl) O2 ⟨wa.heap.size, 0, none⟩ 1 1 [sv x] (by rfl) rfl (World.news_of_block (heap_alloc_new wa (.cells #[sv x] 9))) (by simp [Value.oneCell']) (by omega) (by unfold maxLen; omega) (by omega) Q2.1 (wa.heap.size + 1) (by simp) ?_
          intro gg cap w5 hown5 hgrow hat hlt5
          have K5 : Blk w5 bn 85 #[.slice X j c, .slice none 0 0] := (hgrow.block _ K2.lt (fun e => by have h1 := (O2.lt _ e.symm).1; have h2 := HS3.out; omega)).trans K2
          have c5 := K5.cell 0
          have f5 := K5.frozen 0
          have Q5 := Q2.trans (KpS.grown (S := (fun k => k < w3.heap.size ∧ k ≠ bn)) hgrow (fun k hk => Nat.lt_of_lt_of_le hk.1 Q2.1) (fun k e hk => by have h1 := (O2.lt k e).1; have h2 := hk.1; omega))
          have B5 := B2.grown hgrow B2.size (fun k e => by have h1 := (O2.lt k e).1; have h2 := HB3.out.size; omega)
          have Q6 := Lib.hid (Q5.trans (KpS.set_ (S := (fun k => k < w3.heap.size ∧ k ≠ bn)) (g := bn) (o := 0) (v := .slice (some ⟨gg, 0, none⟩) (j + 1) cap) (fun h => h.2 rfl)))
          have B6 := Lib.hid (bs (b := bn) (o := 0) B5 (by have := HS3.out.1; omega) (.slice (some ⟨gg, 0, none⟩) (j + 1) cap))
          have K6 := Lib.hid (K5.set_ 0 (.slice (some ⟨gg, 0, none⟩) (j + 1) cap))
          have O6 : Hid ((w5.setCell ⟨bn, 0, none⟩ (.slice (some ⟨gg, 0, none⟩) (j + 1) cap)).ownsRow w3.heap.size 9 1 (.slice (some ⟨gg, 0, none⟩) (j + 1) cap) (j + 1) ((T.take (j + 1)).map sv)) := Lib.hid (by rw [HTS.out]; exact yown_far hown5 (by have := HS3.out; omega) _)
          clear hown5 hgrow hat hlt5 Q5 B5 O2 B2 Q2 K2 c2 K5
          refine hK9.out _ _ ?_ (fun hHeld => ?_)
          · trivial
          clear hK9 K9
          try simp only [Act.put, List.setIfInBounds_toArray, List.set_cons_zero, List.set_cons_succ]
          refine wpAnyH_take (i := 7) (oi := ⟨some 31, _, _, _, _, _⟩) (v := ?_) rfl (by kernel_rfl) (by kernel_rfl) (by kernel_rfl) (fun _ _ _ h => h) (Or.inl ⟨by rfl, ?_⟩) (by assumption) ?_
          rotate_left
          · (intro w9 hSw; (try dsimp only at hSw); go_simp; try with_reducible rfl)
          try simp only [Act.put, List.setIfInBounds_toArray, List.set_cons_zero, List.set_cons_succ]
          refine wpAnyH_ready (rs := [8]) (by kernel_rfl) (by simp) ?_
          refine AllReadyH.cons (o := ⟨none, _, _, _, _, _⟩) rfl (fun K9 hK9 => ?_) AllReadyH.nil
          go_simp
          refine hK9.out _ _ ?_ (fun hHeld => ?_)
          · trivial
          clear hK9 K9
          try simp only [Act.put]
          refine wpAnyH_done (by kernel_rfl) ?_ _
          go_wp2_with fail
          exact ⟨⟨j + 1, cap, _, by omega, by go_num, Q6, K6, O6, B6⟩, by simp [intOf]; omega⟩
      -- end 6
    · obtain rfl : m = j := by omega
      have hzr := HKP.out.1
      have KS : ∀ k, k < w3.heap.size → k ≠ bn → wr.heap[k]? = w3.heap[k]? := fun k h1 h2 => HKP.out.2 k ⟨h1, h2⟩
      have HKr : Hid (Blk wr w.heap.size 85 #[.slice (some ⟨gA, oA, none⟩) n cA, .slice (some ⟨gB, oB, none⟩) n cB] ∧ Blk wr (w.heap.size + 1) 85 #[.slice none 0 0, .slice none 0 0]) := Lib.hid ⟨(KS _ (by have := HS3.out; omega) (by have := HS3.out; omega)).trans HK3.out.1, (KS _ (by have := HS3.out; omega) (by have := HS3.out; omega)).trans HK3.out.2.1⟩
      have HVr : Hid (VR vi wr B1 P) := Lib.hid (HV3.out.kp fun a e => KS _ (by have h1 := HBL.out a e; have := HS3.out; omega) (by have h1 := HBL.out a e; omega))
      have HSr : Hid (SR wr X T) := Lib.hid (own_SR' (by have := HO.out; rwa [← HTL.out, List.take_length, HTL.out] at this) HTL.out)
      have HXr : Hid ((∀ a, X = some a → w3.heap.size ≤ a.block ∧ a.block < wr.heap.size) ∧ m ≤ c) := Lib.hid ⟨fun a e => by
        subst e
        exact HO.out.lt a.block rfl, by
        obtain ⟨A', c', e, hh⟩ := own_form HO.out
        injection e with _ _ e3
        subst e3
        rcases hh with ⟨_, h1, _⟩ | ⟨_, _, h1, _⟩ <;> omega⟩
      have TC := Lib.hid (ycutI_any gB oB n cB B1 m d1 P wr hcB (by omega) HVr.out hm hP hr)
      have c1 := HKr.out.1.cell 1
      simp only [List.getElem?_toArray, List.getElem?_cons_zero, List.getElem?_cons_succ] at c1
      clear KS HO HV3 HTA HJ hlt
      go_wp2_with fail
      refine TC.out.mono ?_
      rintro e w5 ⟨rfl, hk5, hb5⟩
      obtain ⟨hq, hhq⟩ : ∃ hq, wr.heap.size + 1 = hq := ⟨_, rfl⟩
      rw [hhq] at hk5 ⊢
      have HS5 : Hid (bn < w3.heap.size ∧ w3.heap.size ≤ wr.heap.size ∧ wr.heap.size < hq ∧ hq < w5.heap.size) := Lib.hid (by have h1 := HS3.out; have h2 := hk5.lt; omega)
      have HK5 : Hid (Blk w5 (w.heap.size + 1) 85 #[.slice none 0 0, .slice none 0 0] ∧ Blk w5 bn 85 #[.slice X m c, .slice none 0 0] ∧ Blk w5 hq 36 (ypcs gB oB cB P n m m).toArray ∧ SR w5 X T) := Lib.hid ⟨HKr.out.2.below hb5, HKB.out.below hb5, hk5, HSr.out.later hb5⟩
      have HB5 := Lib.hid (bt HB.out hb5)
      clear hk5 hb5 hhq TC HKr HVr HSr c1 HKP HKB HB HK3
      go_wp2_with fail
      go_loopw [38] (fun iv ws => ∃ (j d : Nat) (Y : Option Addr), j ≤ m ∧ iv = .int .i64 (j : Int) ∧ Hid (KpS (fun k => k < w5.heap.size ∧ k ≠ bn) w5 ws) ∧ Hid (Blk ws bn 85 #[.slice X m c, .slice Y j d]) ∧ Hid (ws.ownsRow w5.heap.size 3 1 (.slice Y j d) j ((U.take j).map vi)) ∧ Hid (Below w.heap.size w ws)) (fun i _ => m - (intOf i).toNat)
      case atStart => exact ⟨0, 0, none, Nat.zero_le _, rfl, Lib.hid (KpS.refl _ _), Lib.hid HK5.out.2.1, Lib.hid (World.ownsRow_nil _ _ _ _), HB5⟩
      case round =>
        obtain ⟨j, d, Y, hj, rfl, HKP, HKB, HO, HB⟩ := hrel
        by_cases hlt : j < m
        · have hrj := hr j (by omega)
          have d0 : wr.cell? ⟨hq, j, none⟩ = some (.slice (some ⟨gB, oB + P.getD j 0, none⟩) (yend P n j - P.getD j 0) (cB - P.getD j 0)) := by
            rw [HKP.out.at_ (a := ⟨hq, j, none⟩) (show hq < w5.heap.size ∧ hq ≠ bn by have := HS5.out; omega), HK5.out.2.2.1.cell j, List.getElem?_toArray, ypcs_at _ _ _ _ _ _ _ hlt]
            rfl
          have d1 := HVA.out j wr hlt HB.out
          obtain ⟨gl, hgl⟩ : ∃ gl, yend P n j - P.getD j 0 = gl := ⟨_, rfl⟩
          obtain ⟨gc, hgc⟩ : ∃ gc, cB - P.getD j 0 = gc := ⟨_, rfl⟩
          have i2 : (0 : Int) < (gl : Int) := by omega
          have i3 : ¬ gl = 0 := by omega
          rw [hgl, hgc] at d0
          clear hgl hgc hrj
          generalize oB + P.getD j 0 = ob at d0 d1
          obtain ⟨x, hxx⟩ : ∃ x, U.getD j 0 = x := ⟨_, rfl⟩
          rw [hxx] at d1
          have i0 : (0 : Int) ≤ (j : Int) := by omega
          have i1 : (j : Int) < (m : Int) := by omega
          have c0 := HKB.out.cell 1
          have f0 := HKB.out.frozen 1
          simp only [List.getElem?_toArray, List.getElem?_cons_zero, List.getElem?_cons_succ] at c0
          have HTS : Hid ((U.take (j + 1)).map vi = (U.take j).map vi ++ [vi x]) := Lib.hid (by
            rw [← hxx, List.take_add_one, List.map_append]
            have : j < U.length := by rw [HVL.out]; exact hlt
            simp [List.getD, this])
          clear hxx
          go_wp2_with fail
          -- region 11
          refine wp_region_held_drew (S := fun _ => True) (by kernel_rfl) trivial (fun hHeld => ?_)
          refine wpAnyH_take (i := 0) (oi := ⟨some 42, _, _, _, _, _⟩) (v := ?_) rfl (by kernel_rfl) (by kernel_rfl) (by kernel_rfl) (fun _ _ _ h => h) (Or.inl ⟨by rfl, ?_⟩) (by assumption) ?_
          rotate_left
          · (intro w9 hSw; (try dsimp only at hSw); go_simp; try with_reducible rfl)
          try simp only [Act.put, List.setIfInBounds_toArray, List.set_cons_zero, List.set_cons_succ]
          refine wpAnyH_take (i := 2) (oi := ⟨some 44, _, _, _, _, _⟩) (v := ?_) rfl (by kernel_rfl) (by kernel_rfl) (by kernel_rfl) (fun _ _ _ h => h) (Or.inl ⟨by rfl, ?_⟩) (by assumption) ?_
          rotate_left
          · (intro w9 hSw; (try dsimp only at hSw); go_simp; try with_reducible rfl)
          try simp only [Act.put, List.setIfInBounds_toArray, List.set_cons_zero, List.set_cons_succ]
          refine wpAnyH_take (i := 3) (oi := ⟨some 45, _, _, _, _, _⟩) (v := .pointer (some ⟨gB, ob, none⟩)) rfl (by kernel_rfl) (by kernel_rfl) (by kernel_rfl) (fun _ _ _ h => h) (Or.inl ⟨by rfl, ?_⟩) (by assumption) ?_
          · (intro w9 hSw; (try dsimp only at hSw); go_simp; try with_reducible rfl)
          try simp only [Act.put, List.setIfInBounds_toArray, List.set_cons_zero, List.set_cons_succ]
          refine wpAnyH_ready (rs := [1, 4]) (by kernel_rfl) (by simp) ?_
          refine AllReadyH.cons (o := ⟨some 43, _, _, _, _, _⟩) rfl (fun K9 hK9 => ?_) ?_
          · skip
            go_simp
            refine hK9.out _ _ ?_ (fun hHeld => ?_)
            · trivial
            clear hK9 K9
            try simp only [Act.put, List.setIfInBounds_toArray, List.set_cons_zero, List.set_cons_succ]
            refine wpAnyH_ready (rs := [4]) (by kernel_rfl) (by simp) ?_
            refine AllReadyH.cons (o := ⟨some 46, _, _, _, _, _⟩) rfl (fun K9 hK9 => ?_) AllReadyH.nil
            go_simp
            refine hK9.out _ _ ?_ (fun hHeld => ?_)
            · trivial
            clear hK9 K9
            try simp only [Act.put, List.setIfInBounds_toArray, List.set_cons_zero, List.set_cons_succ]
            refine wpAnyH_ready (rs := [5]) (by kernel_rfl) (by simp) ?_
            refine AllReadyH.cons (o := ⟨some 47, _, _, _, _, _⟩) rfl (fun K9 hK9 => ?_) AllReadyH.nil
            go_simp
            have K2 : Blk (wr.alloc (.cells #[vi x] 3)).drew bn 85 #[.slice X m c, .slice Y j d] := HKB.out.alloc (.cells #[vi x] 3)
            have c2 := K2.cell 1
            have Q2 : KpS (fun k => k < w5.heap.size ∧ k ≠ bn) w5 (wr.alloc (.cells #[vi x] 3)).drew := HKP.out.trans (KpS.alloc wr (.cells #[vi x] 3) (fun k hk => Nat.lt_of_lt_of_le hk.1 HKP.out.1))
            have B2 := (ba HB.out (.cells #[vi x] 3)).drew
            have O2 : (wr.alloc (.cells #[vi x] 3)).drew.ownsRow w5.heap.size 3 1 (.slice Y j d) j ((U.take j).map vi) := HO.out.alloc (.cells #[vi x] 3)
            refine hK9.out _ _ ?_ (fun hHeld => ?_)
            · trivial
            clear hK9 K9
            try simp only [Act.put, List.setIfInBounds_toArray, List.set_cons_zero, List.set_cons_succ]
            refine wpAnyH_ready (rs := [6]) (by kernel_rfl) (by simp) ?_
            refine AllReadyH.cons (o := ⟨some 48, _, _, _, _, _⟩) rfl (fun K9 hK9 => ?_) AllReadyH.nil
            refine step_append_lies _ (by rfl) _ _ _ (by rfl) w5.heap.size 3 ti (.int .i64 0) 1 8 Tryz.underlying36 hti hz0 hz1 hz2 rfl (by omega) (.slice Y j d) j ((U.take j).map vi) (by rfl) O2 ⟨wr.heap.size, 0, none⟩ 1 1 [vi x] (by rfl) rfl (World.news_of_block (cs := #[vi x]) (t := 3) (fr := (0, 0)) (heap_alloc_new wr _)) (by simp [Value.oneCell']) (by omega) (by unfold maxLen; omega) (by omega) Q2.1 (wr.heap.size + 1) (by simp) ?_
            intro gg cap w6 hown6 hgrow hat hlt6
            have K6 : Blk w6 bn 85 #[.slice X m c, .slice Y j d] := (hgrow.block _ K2.lt (fun e => by have h1 := (O2.lt _ e.symm).1; have h2 := HS5.out; omega)).trans K2
            have c6 := K6.cell 1
            have f6 := K6.frozen 1
            have Q6 := Q2.trans (KpS.grown (S := (fun k => k < w5.heap.size ∧ k ≠ bn)) hgrow (fun k hk => Nat.lt_of_lt_of_le hk.1 Q2.1) (fun k e hk => by have h1 := (O2.lt k e).1; have h2 := hk.1; omega))
            have B6 := B2.grown hgrow B2.size (fun k e => by have h1 := (O2.lt k e).1; have h2 := HB5.out.size; omega)
            have Q7 := Lib.hid (Q6.trans (KpS.set_ (S := (fun k => k < w5.heap.size ∧ k ≠ bn)) (g := bn) (o := 1) (v := .slice (some ⟨gg, 0, none⟩) (j + 1) cap) (fun h => h.2 rfl)))
            have B7 := Lib.hid (bs (b := bn) (o := 1) B6 (by have := HS3.out.1; omega) (.slice (some ⟨gg, 0, none⟩) (j + 1) cap))
            have K7 := Lib.hid (K6.set_ 1 (.slice (some ⟨gg, 0, none⟩) (j + 1) cap))
            have O7 : Hid ((w6.setCell ⟨bn, 1, none⟩ (.slice (some ⟨gg, 0, none⟩) (j + 1) cap)).ownsRow w5.heap.size 3 1 (.slice (some ⟨gg, 0, none⟩) (j + 1) cap) (j + 1) ((U.take (j + 1)).map vi)) := Lib.hid (by rw [HTS.out]; exact yown_far hown6 (by have := HS5.out; omega) _)
            clear hown6 hgrow hat hlt6 Q6 B6 O2 B2 Q2 K2 c2 K6
            refine hK9.out _ _ ?_ (fun hHeld => ?_)
            · trivial
            clear hK9 K9
            try simp only [Act.put, List.setIfInBounds_toArray, List.set_cons_zero, List.set_cons_succ]
            refine wpAnyH_take (i := 7) (oi := ⟨some 49, _, _, _, _, _⟩) (v := ?_) rfl (by kernel_rfl) (by kernel_rfl) (by kernel_rfl) (fun _ _ _ h => h) (Or.inl ⟨by rfl, ?_⟩) (by assumption) ?_
            rotate_left
            · (intro w9 hSw; (try dsimp only at hSw); go_simp; try with_reducible rfl)
            try simp only [Act.put, List.setIfInBounds_toArray, List.set_cons_zero, List.set_cons_succ]
            refine wpAnyH_ready (rs := [8]) (by kernel_rfl) (by simp) ?_
            refine AllReadyH.cons (o := ⟨none, _, _, _, _, _⟩) rfl (fun K9 hK9 => ?_) AllReadyH.nil
            go_simp
            refine hK9.out _ _ ?_ (fun hHeld => ?_)
            · trivial
            clear hK9 K9
            try simp only [Act.put]
            refine wpAnyH_done (by kernel_rfl) ?_ _
            go_wp2_with fail
            exact ⟨⟨j + 1, cap, _, by omega, by go_num, Q7, K7, O7, B7⟩, by simp [intOf]; omega⟩
          refine AllReadyH.cons (o := ⟨some 46, _, _, _, _, _⟩) rfl (fun K9 hK9 => ?_) AllReadyH.nil
          · skip
            go_simp
            refine hK9.out _ _ ?_ (fun hHeld => ?_)
            · trivial
            clear hK9 K9
            try simp only [Act.put, List.setIfInBounds_toArray, List.set_cons_zero, List.set_cons_succ]
            refine wpAnyH_ready (rs := [1, 5]) (by kernel_rfl) (by simp) ?_
            refine AllReadyH.cons (o := ⟨some 43, _, _, _, _, _⟩) rfl (fun K9 hK9 => ?_) ?_
            · skip
              go_simp
              refine hK9.out _ _ ?_ (fun hHeld => ?_)
              · trivial
              clear hK9 K9
              try simp only [Act.put, List.setIfInBounds_toArray, List.set_cons_zero, List.set_cons_succ]
              refine wpAnyH_ready (rs := [5]) (by kernel_rfl) (by simp) ?_
              refine AllReadyH.cons (o := ⟨some 47, _, _, _, _, _⟩) rfl (fun K9 hK9 => ?_) AllReadyH.nil
              go_simp
              have K2 : Blk (wr.alloc (.cells #[vi x] 3)).drew bn 85 #[.slice X m c, .slice Y j d] := HKB.out.alloc (.cells #[vi x] 3)
              have c2 := K2.cell 1
              have Q2 : KpS (fun k => k < w5.heap.size ∧ k ≠ bn) w5 (wr.alloc (.cells #[vi x] 3)).drew := HKP.out.trans (KpS.alloc wr (.cells #[vi x] 3) (fun k hk => Nat.lt_of_lt_of_le hk.1 HKP.out.1))
              have B2 := (ba HB.out (.cells #[vi x] 3)).drew
              have O2 : (wr.alloc (.cells #[vi x] 3)).drew.ownsRow w5.heap.size 3 1 (.slice Y j d) j ((U.take j).map vi) := HO.out.alloc (.cells #[vi x] 3)
              refine hK9.out _ _ ?_ (fun hHeld => ?_)
              · trivial
              clear hK9 K9
              try simp only [Act.put, List.setIfInBounds_toArray, List.set_cons_zero, List.set_cons_succ]
              refine wpAnyH_ready (rs := [6]) (by kernel_rfl) (by simp) ?_
              refine AllReadyH.cons (o := ⟨some 48, _, _, _, _, _⟩) rfl (fun K9 hK9 => ?_) AllReadyH.nil
              refine step_append_lies _ (by rfl) _ _ _ (by rfl) w5.heap.size 3 ti (.int .i64 0) 1 8 Tryz.underlying36 hti hz0 hz1 hz2 rfl (by omega) (.slice Y j d) j ((U.take j).map vi) (by rfl) O2 ⟨wr.heap.size, 0, none⟩ 1 1 [vi x] (by rfl) rfl (World.news_of_block (cs := #[vi x]) (t := 3) (fr := (0, 0)) (heap_alloc_new wr _)) (by simp [Value.oneCell']) (by omega) (by unfold maxLen; omega) (by omega) Q2.1 (wr.heap.size + 1) (by simp) ?_
              intro gg cap w6 hown6 hgrow hat hlt6
              have K6 : Blk w6 bn 85 #[.slice X m c, .slice Y j d] := (hgrow.block _ K2.lt (fun e => by have h1 := (O2.lt _ e.symm).1; have h2 := HS5.out; omega)).trans K2
              have c6 := K6.cell 1
              have f6 := K6.frozen 1
              have Q6 := Q2.trans (KpS.grown (S := (fun k => k < w5.heap.size ∧ k ≠ bn)) hgrow (fun k hk => Nat.lt_of_lt_of_le hk.1 Q2.1) (fun k e hk => by have h1 := (O2.lt k e).1; have h2 := hk.1; omega))
              have B6 := B2.grown hgrow B2.size (fun k e => by have h1 := (O2.lt k e).1; have h2 := HB5.out.size; omega)
              have Q7 := Lib.hid (Q6.trans (KpS.set_ (S := (fun k => k < w5.heap.size ∧ k ≠ bn)) (g := bn) (o := 1) (v := .slice (some ⟨gg, 0, none⟩) (j + 1) cap) (fun h => h.2 rfl)))
              have B7 := Lib.hid (bs (b := bn) (o := 1) B6 (by have := HS3.out.1; omega) (.slice (some ⟨gg, 0, none⟩) (j + 1) cap))
              have K7 := Lib.hid (K6.set_ 1 (.slice (some ⟨gg, 0, none⟩) (j + 1) cap))
              have O7 : Hid ((w6.setCell ⟨bn, 1, none⟩ (.slice (some ⟨gg, 0, none⟩) (j + 1) cap)).ownsRow w5.heap.size 3 1 (.slice (some ⟨gg, 0, none⟩) (j + 1) cap) (j + 1) ((U.take (j + 1)).map vi)) := Lib.hid (by rw [HTS.out]; exact yown_far hown6 (by have := HS5.out; omega) _)
              clear hown6 hgrow hat hlt6 Q6 B6 O2 B2 Q2 K2 c2 K6
              refine hK9.out _ _ ?_ (fun hHeld => ?_)
              · trivial
              clear hK9 K9
              try simp only [Act.put, List.setIfInBounds_toArray, List.set_cons_zero, List.set_cons_succ]
              refine wpAnyH_take (i := 7) (oi := ⟨some 49, _, _, _, _, _⟩) (v := ?_) rfl (by kernel_rfl) (by kernel_rfl) (by kernel_rfl) (fun _ _ _ h => h) (Or.inl ⟨by rfl, ?_⟩) (by assumption) ?_
              rotate_left
              · (intro w9 hSw; (try dsimp only at hSw); go_simp; try with_reducible rfl)
              try simp only [Act.put, List.setIfInBounds_toArray, List.set_cons_zero, List.set_cons_succ]
              refine wpAnyH_ready (rs := [8]) (by kernel_rfl) (by simp) ?_
              refine AllReadyH.cons (o := ⟨none, _, _, _, _, _⟩) rfl (fun K9 hK9 => ?_) AllReadyH.nil
              go_simp
              refine hK9.out _ _ ?_ (fun hHeld => ?_)
              · trivial
              clear hK9 K9
              try simp only [Act.put]
              refine wpAnyH_done (by kernel_rfl) ?_ _
              go_wp2_with fail
              exact ⟨⟨j + 1, cap, _, by omega, by go_num, Q7, K7, O7, B7⟩, by simp [intOf]; omega⟩
            refine AllReadyH.cons (o := ⟨some 47, _, _, _, _, _⟩) rfl (fun K9 hK9 => ?_) AllReadyH.nil
            · skip
              go_simp
              have K2 : Blk (wr.alloc (.cells #[vi x] 3)).drew bn 85 #[.slice X m c, .slice Y j d] := HKB.out.alloc (.cells #[vi x] 3)
              have c2 := K2.cell 1
              have Q2 : KpS (fun k => k < w5.heap.size ∧ k ≠ bn) w5 (wr.alloc (.cells #[vi x] 3)).drew := HKP.out.trans (KpS.alloc wr (.cells #[vi x] 3) (fun k hk => Nat.lt_of_lt_of_le hk.1 HKP.out.1))
              have B2 := (ba HB.out (.cells #[vi x] 3)).drew
              have O2 : (wr.alloc (.cells #[vi x] 3)).drew.ownsRow w5.heap.size 3 1 (.slice Y j d) j ((U.take j).map vi) := HO.out.alloc (.cells #[vi x] 3)
              refine hK9.out _ _ ?_ (fun hHeld => ?_)
              · trivial
              clear hK9 K9
              try simp only [Act.put, List.setIfInBounds_toArray, List.set_cons_zero, List.set_cons_succ]
              refine wpAnyH_ready (rs := [1]) (by kernel_rfl) (by simp) ?_
              refine AllReadyH.cons (o := ⟨some 43, _, _, _, _, _⟩) rfl (fun K9 hK9 => ?_) AllReadyH.nil
              go_simp
              refine hK9.out _ _ ?_ (fun hHeld => ?_)
              · trivial
              clear hK9 K9
              try simp only [Act.put, List.setIfInBounds_toArray, List.set_cons_zero, List.set_cons_succ]
              refine wpAnyH_ready (rs := [6]) (by kernel_rfl) (by simp) ?_
              refine AllReadyH.cons (o := ⟨some 48, _, _, _, _, _⟩) rfl (fun K9 hK9 => ?_) AllReadyH.nil
              refine step_append_lies _ (by rfl) _ _ _ (by rfl) w5.heap.size 3 ti (.int .i64 0) 1 8 Tryz.underlying36 hti hz0 hz1 hz2 rfl (by omega) (.slice Y j d) j ((U.take j).map vi) (by rfl) O2 ⟨wr.heap.size, 0, none⟩ 1 1 [vi x] (by rfl) rfl (World.news_of_block (cs := #[vi x]) (t := 3) (fr := (0, 0)) (heap_alloc_new wr _)) (by simp [Value.oneCell']) (by omega) (by unfold maxLen; omega) (by omega) Q2.1 (wr.heap.size + 1) (by simp) ?_
              intro gg cap w6 hown6 hgrow hat hlt6
              have K6 : Blk w6 bn 85 #[.slice X m c, .slice Y j d] := (hgrow.block _ K2.lt (fun e => by have h1 := (O2.lt _ e.symm).1; have h2 := HS5.out; omega)).trans K2
              have c6 := K6.cell 1
              have f6 := K6.frozen 1
              have Q6 := Q2.trans (KpS.grown (S := (fun k => k < w5.heap.size ∧ k ≠ bn)) hgrow (fun k hk => Nat.lt_of_lt_of_le hk.1 Q2.1) (fun k e hk => by have h1 := (O2.lt k e).1; have h2 := hk.1; omega))
              have B6 := B2.grown hgrow B2.size (fun k e => by have h1 := (O2.lt k e).1; have h2 := HB5.out.size; omega)
              have Q7 := Lib.hid (Q6.trans (KpS.set_ (S := (fun k => k < w5.heap.size ∧ k ≠ bn)) (g := bn) (o := 1) (v := .slice (some ⟨gg, 0, none⟩) (j + 1) cap) (fun h => h.2 rfl)))
              have B7 := Lib.hid (bs (b := bn) (o := 1) B6 (by have := HS3.out.1; omega) (.slice (some ⟨gg, 0, none⟩) (j + 1) cap))
              have K7 := Lib.hid (K6.set_ 1 (.slice (some ⟨gg, 0, none⟩) (j + 1) cap))
              have O7 : Hid ((w6.setCell ⟨bn, 1, none⟩ (.slice (some ⟨gg, 0, none⟩) (j + 1) cap)).ownsRow w5.heap.size 3 1 (.slice (some ⟨gg, 0, none⟩) (j + 1) cap) (j + 1) ((U.take (j + 1)).map vi)) := Lib.hid (by rw [HTS.out]; exact yown_far hown6 (by have := HS5.out; omega) _)
              clear hown6 hgrow hat hlt6 Q6 B6 O2 B2 Q2 K2 c2 K6
              refine hK9.out _ _ ?_ (fun hHeld => ?_)
              · trivial
              clear hK9 K9
              try simp only [Act.put, List.setIfInBounds_toArray, List.set_cons_zero, List.set_cons_succ]
              refine wpAnyH_take (i := 7) (oi := ⟨some 49, _, _, _, _, _⟩) (v := ?_) rfl (by kernel_rfl) (by kernel_rfl) (by kernel_rfl) (fun _ _ _ h => h) (Or.inl ⟨by rfl, ?_⟩) (by assumption) ?_
              rotate_left
              · (intro w9 hSw; (try dsimp only at hSw); go_simp; try with_reducible rfl)
              try simp only [Act.put, List.setIfInBounds_toArray, List.set_cons_zero, List.set_cons_succ]
              refine wpAnyH_ready (rs := [8]) (by kernel_rfl) (by simp) ?_
              refine AllReadyH.cons (o := ⟨none, _, _, _, _, _⟩) rfl (fun K9 hK9 => ?_) AllReadyH.nil
              go_simp
              refine hK9.out _ _ ?_ (fun hHeld => ?_)
              · trivial
              clear hK9 K9
              try simp only [Act.put]
              refine wpAnyH_done (by kernel_rfl) ?_ _
              go_wp2_with fail
              exact ⟨⟨j + 1, cap, _, by omega, by go_num, Q7, K7, O7, B7⟩, by simp [intOf]; omega⟩
          -- end 11
        · obtain rfl : m = j := by omega
          have hsz := HKP.out.1
          have KS : ∀ k, k < w5.heap.size → k ≠ bn → wr.heap[k]? = w5.heap[k]? := fun k h1 h2 => HKP.out.2 k ⟨h1, h2⟩
          have hb1 : w.heap.size + 2 ≤ bn := HS3.out.1
          have K1 : Blk wr (w.heap.size + 1) 85 #[.slice none 0 0, .slice none 0 0] := (KS _ (by have := HS5.out; omega) (by omega)).trans HK5.out.1
          have HXw : SR wr X T := HK5.out.2.2.2.kp fun a e => by
            have h1 := HXr.out.1 a e
            exact KS _ (by have := HS5.out; omega) (by have := HS5.out; omega)
          have HYw : VR vi wr Y U := own_VR (by have := HO.out; rwa [← HVL.out, List.take_length, HVL.out] at this) HVL.out
          have HYb : (∀ a, Y = some a → w5.heap.size ≤ a.block) ∧ m ≤ d := ⟨fun a e => by
            subst e
            exact (HO.out.lt a.block rfl).1, by
            obtain ⟨A', c', e, hh⟩ := own_form HO.out
            injection e with _ _ e3
            subst e3
            rcases hh with ⟨_, h1, _⟩ | ⟨_, _, h1, _⟩ <;> omega⟩
          have ST : ∀ u v k, k ≠ w.heap.size + 1 → ((wr.setCell ⟨w.heap.size + 1, 0, none⟩ u).setCell ⟨w.heap.size + 1, 1, none⟩ v).heap[k]? = wr.heap[k]? := fun u v k hk =>
            (Below.heap_setCell _ ⟨w.heap.size + 1, 1, none⟩ v k hk).trans (Below.heap_setCell _ ⟨w.heap.size + 1, 0, none⟩ u k hk)
          have HF := Lib.hid (And.intro (show SR ((wr.setCell ⟨w.heap.size + 1, 0, none⟩ (.slice X m c)).setCell ⟨w.heap.size + 1, 1, none⟩ (.slice Y m d)) X T from HXw.kp fun a e => ST _ _ _ (by have h1 := HXr.out.1 a e; have := HS5.out; omega))
            (And.intro (show VR vi ((wr.setCell ⟨w.heap.size + 1, 0, none⟩ (.slice X m c)).setCell ⟨w.heap.size + 1, 1, none⟩ (.slice Y m d)) Y U from HYw.kp fun a e => ST _ _ _ (by have h1 := HYb.1 a e; have := HS5.out; omega))
            (bs (b := w.heap.size + 1) (o := 1) (bs (b := w.heap.size + 1) (o := 0) HB.out (by omega) (.slice X m c)) (by omega) (.slice Y m d))))
          have HC := Lib.hid (And.intro HXr.out.2 HYb.2)
          have HFR : Hid (∀ a, X = some a → w.heap.size ≤ a.block) := Lib.hid fun a e => by have h1 := HXr.out.1 a e; have := HS3.out; have := HS5.out; omega
          have KK := Lib.hid ((K1.set_ 0 (.slice X m c)).set_ 1 (.slice Y m d))
          have q0 := HKB.out.cell 0
          have q1 := HKB.out.cell 1
          have k0 := K1.cell 0
          have k1 := K1.cell 1
          have f0 := K1.frozen 0
          have f1 := K1.frozen 1
          simp only [List.getElem?_toArray, List.getElem?_cons_zero, List.getElem?_cons_succ] at q0 q1 k0 k1
          clear KS K1 HXw HYw HYb ST hsz hb1 HKP HO HB HK5
          go_wp2_with fail
          refine bodyPost_ret (yrow_result rfl KK.out) rfl ?_
          exact ⟨X, c, Y, d, rfl, HC.out.1, HC.out.2, HFR.out, HF.out.1, HF.out.2.1, HF.out.2.2⟩
end Go.Proofs.YtjonhenllhnibaaGreatDoor
