/- Texts of this seat, one behind the other: YCutI, YHigh. -/
import Derived.BigQuiet
import Derived.Test.YtjonhenllhnibaaGreatDoorQ13
import Derived.Test.YtjonhenllhnibaaGreatDoorQ15
import Derived.Test.YtjonhenllhnibaaGreatDoorQ17
/- The contract of cut at a type: the pieces, in a row of their own. -/
namespace Go.Proofs.YtjonhenllhnibaaGreatDoor
open Go.RowKit Go.Shelf
attribute [local go_sem] Oper.semAt_some

theorem yinfoRI : (Tryz.prog.info? 36).map (fun i => (i.zero, i.size, i.bytes)) = some (some (.slice none 0 0), 1, 24) := by kernel_rfl
theorem ymakeI_run (n : Nat) (hn : n ≤ 65536) (W : World) : (Instr.makeSlice 113 (.int .i64 (n : Int)) (.int .i64 (n : Int))).run Tryz.prog W = .ok (.slice (some ⟨W.heap.size, 0, none⟩) n n) (W.alloc (.cells (Array.replicate n (.slice none 0 0)) 36)) := by
  obtain ⟨i0, hi, hz0, hz1, hz2⟩ := info_parts yinfoRI
  have h := run_makeSlice (P := Tryz.prog) (w := W) 113 36 i0 (.slice none 0 0) Tryz.underlying113 hi hz0 .i64 .i64 n n (by omega) (by omega) (by rw [hz1]; omega) (by rw [hz2]; omega) (by omega)
  rw [hz1] at h
  have e : madeCells (Value.slice none 0 0).cells ((n : Int).toNat * 1) = (Array.replicate n (.slice none 0 0)) := by
    simp [madeCells, Value.cells]
    apply Array.ext
    · simp
    · intro i h1 h2
      simp [Nat.mod_one]
  rw [e] at h
  exact h
theorem ycutI_run (g off n c p e : Nat) (hp : p < e) (he : e ≤ n) (hc : n ≤ c) (W : World) : (Instr.slice 36 (.slice (some ⟨g, off, none⟩) n c) (some (.int .i64 (p : Int))) (some (.int .i64 (e : Int))) none).run Tryz.prog W = .ok (.slice (some ⟨g, off + p, none⟩) (e - p) (c - p)) W := by
  obtain ⟨i, hi, hz0, hz1, hz2⟩ := info_parts infoVI
  have hb : (Instr.sliceBounds true n c (some (.int .i64 (p : Int))) (some (.int .i64 (e : Int))) none).run Tryz.prog W = .ok (p, e, c) W := by
    have h1 : (0 : Int) ≤ (e : Int) ∧ (e : Int) ≤ (c : Int) := by omega
    have h2 : (0 : Int) ≤ (p : Int) ∧ (p : Int) ≤ (e : Int) := by omega
    simp [Instr.sliceBounds, Instr.sliceBound, asIntOf, h1, h2]
    rw [if_pos (show e ≤ c by omega), if_pos (show p ≤ e by omega)]
  have hA : ¬ c = p := by omega
  simp [Instr.slice, run_underlying (P := Tryz.prog) (w := W) Tryz.underlying36, hb, sizeOf, typeInfo, hi, hz1, hA, Addr.add]

/-- Between two rounds. -/
def CutI (w : World) (g off n c m : Nat) (P : List Nat) (k : Nat) (W : World) : Prop :=
  Blk W w.heap.size 36 #[.slice (some ⟨g, off, none⟩) n c] ∧ Blk W (w.heap.size + 1) 36 (ypcs g off c P n m k).toArray ∧ Blk W (w.heap.size + 1 + 1) 113 #[.slice (some ⟨w.heap.size + 1, 0, none⟩) m m] ∧ Blk W (w.heap.size + 1 + 1 + 1) 3 #[vi (yen P n k)] ∧ Below w.heap.size w W
theorem CutI_kept (w : World) (g off n c m : Nat) (P : List Nat) {B : Nat} (hB : w.heap.size ≤ B) : KeptV B (fun (pre : List Nat) W => CutI w g off n c m P pre.length W) := by
  rintro s W W' row ⟨h1, h2, h3, h4, h6⟩ hg hr
  exact ⟨hr.blk hg h1, hr.blk hg h2, hr.blk hg h3, hr.blk hg h4, h6.grown hg h6.size (fun k e => Nat.le_trans hB (hr k e).1)⟩
/-- A round's end. -/
theorem CutI_more {w : World} {g off n c m k : Nat} {P : List Nat} {V : World} (hP : P.length = m) (h : CutI w g off n c m P k V) (hk : k < m) :
    let V1 := (V.setCell ⟨w.heap.size + 1, m - 1 - k, none⟩ (ypc g off c P n (m - 1 - k))).setCell ⟨w.heap.size + 1 + 1 + 1, 0, none⟩ (vi (P.getD (m - 1 - k) 0))
    CutI w g off n c m P (k + 1) V1 ∧ KeepsFrom w.heap.size V V1 ∧ KpS (fun j => j < w.heap.size ∨ j = w.heap.size + 1 + 1 + 1 + 1) V V1 := by
  obtain ⟨h1, h2, h3, h4, h6⟩ := h
  refine ⟨⟨?_, ?_, ?_, ?_, ?_⟩, ?_, ?_⟩
  · exact (h1.far (p := ⟨w.heap.size + 1, m - 1 - k, none⟩) (by simp; try omega) _).far (p := ⟨w.heap.size + 1 + 1 + 1, 0, none⟩) (by simp; try omega) _
  · have := yblk_set h2 (m - 1 - k) (ypc g off c P n (m - 1 - k))
    rw [ypcs_set _ _ _ _ _ _ _ hk] at this
    exact this.far (p := ⟨w.heap.size + 1 + 1 + 1, 0, none⟩) (by simp; try omega) _
  · exact (h3.far (p := ⟨w.heap.size + 1, m - 1 - k, none⟩) (by simp; try omega) _).far (p := ⟨w.heap.size + 1 + 1 + 1, 0, none⟩) (by simp; try omega) _
  · have := (h4.far (p := ⟨w.heap.size + 1, m - 1 - k, none⟩) (by simp; try omega) (ypc g off c P n (m - 1 - k))).set_ 0 (vi (P.getD (m - 1 - k) 0))
    rw [yen_next P n k (by omega), hP]
    exact this
  · exact bs (b := w.heap.size + 1 + 1 + 1) (o := 0) (bs (b := w.heap.size + 1) (o := m - 1 - k) h6 (show w.heap.size ≤ w.heap.size + 1 by omega) _) (show w.heap.size ≤ w.heap.size + 1 + 1 + 1 by omega) _
  · exact ((KeepsOthers.setCell _ _ _).from _).trans ((KeepsOthers.setCell _ _ _).from _)
  · exact (KpS.set_ (by omega)).trans (KpS.set_ (by omega))

set_option maxRecDepth 100000 in
set_option maxHeartbeats 8000000 in
theorem ycutI_any (g off n c : Nat) (B : Option Addr) (m d : Nat) (P : List Nat) (w : World) (hc : n ≤ c) (hn : n ≤ 65536) (hB : VR vi w B P) (hP : P.length = m) (hm : 1 ≤ m) (hr : YRise P n) :
    Calls Tryz.prog 83 #[.slice (some ⟨g, off, none⟩) n c, .slice B m d] w fun e w' => e = .returned (.slice (some ⟨w.heap.size + 1, 0, none⟩) m m) ∧ Blk w' (w.heap.size + 1) 36 (ypcs g off c P n m m).toArray ∧ Below w.heap.size w w' := by
  have hmn : m ≤ n := by
    have h1 : ∀ i, i < m → i ≤ P.getD i 0 := by
      intro i
      induction i with
      | zero => intro _; omega
      | succ i ih =>
        intro h
        have h2 := ih (by omega)
        have h3 := (hr i (by omega)).1
        rw [yend_pred (by omega)] at h3
        omega
    have h2 := h1 (m - 1) (by omega)
    have h3 := hr (m - 1) (by omega)
    omega
  obtain ⟨gB, oB, hBe, hB0⟩ := hB 0 (by omega)
  have hBl := World.block_lt_of_cell? _ _ hB0
  have eg : ∀ args w, (callFunc 126 args).run Tryz.prog w = .ok (.enter 126 args) w := enters_of Tryz.func126 (by kernel_rfl) rfl
  have hmk := ymakeI_run m (by omega)
  obtain ⟨W0, hW0⟩ : ∃ W0, (((((w.alloc (.cells #[.slice (some ⟨g, off, none⟩) n c] 36)).alloc (.cells (Array.replicate m (.slice none 0 0)) 36)).alloc (.cells #[.slice (some ⟨w.heap.size + 1, 0, none⟩) m m] 113)).alloc (.cells #[.int .i64 (n : Int)] 3)).alloc (.cells #[.slice (some ⟨gB, oB, none⟩) m d] 36)) = W0 := ⟨_, rfl⟩
  have hbw : Below w.heap.size w W0 := by rw [← hW0]; exact ba (ba (ba (ba (ba (Below.refl _ _) _) _) _) _) _
  have hsz : W0.heap.size = w.heap.size + 1 + 1 + 1 + 1 + 1 := by rw [← hW0]; simp
  have hI0 : CutI w g off n c m P 0 W0 := by
    rw [← hW0]
    refine ⟨((((Blk.new w _ _).alloc _).alloc _).alloc _).alloc _, ?_, ((Blk.newAt (by simp) _ _).alloc _).alloc _, (Blk.newAt (by simp) _ _).alloc _, ba (ba (ba (ba (ba (Below.refl _ _) _) _) _) _) _⟩
    rw [ypcs_zero, List.toArray_replicate]
    exact (((Blk.newAt (by simp) _ _).alloc _).alloc _).alloc _
  have hbk : Blk W0 (w.heap.size + 1 + 1 + 1 + 1) 36 #[.slice (some ⟨gB, oB, none⟩) m d] := by rw [← hW0]; exact Blk.newAt (by simp) _ _
  subst hBe
  have hH : HandsY vi (fun x => vi (P.getD x 0)) 5 126 #[.pointer (some ⟨w.heap.size + 1 + 1 + 1 + 1, 0, none⟩)] (fun j => j < w.heap.size ∨ j = w.heap.size + 1 + 1 + 1 + 1) (ydown m m) W0 :=
    yback_hands 5 (by omega) _ _ m d P _ W0 (by omega) hP (.inr rfl) (fun a e => .inl (by cases e; exact hBl)) hbk (hB.later hbw)
  have HP := Lib.hid hP
  have HR := Lib.hid hr
  have HW0 := Lib.hid hW0
  clear hB hB0 hbk hr hW0
  refine (callsIn_wide (n := 6)).1 ?_
  refine callsIn_of_wp_marks Tryz.func83 rfl trivial ?_ rfl
  simp only [Tryz.ntmps83, List.size_toArray, List.length_cons, List.length_nil, Nat.reduceAdd, Nat.reduceSub, Array.replicate_succ, Array.replicate_zero, List.push_toArray, List.append_toArray, List.nil_append, List.cons_append]
  gi_wp2_with fail
  refine ⟨trivial, ?_⟩
  refine (callsIn_wide.2 (ybackward_any _ _ _ _)).mono ?_
  rintro e1 w1 ⟨rfl, rfl⟩
  gi_wp2_with fail
  rw [HW0.out]
  clear HW0 hmk
  refine range_y (e1 := vi) (e2 := fun x => vi (P.getD x 0)) (n := 6) (w0 := W0) (by omega) (gf := 126) (lb := #[.pointer (some ⟨w.heap.size + 1 + 1 + 1 + 1, 0, none⟩)]) rfl eg (S := fun j => j < w.heap.size ∨ j = w.heap.size + 1 + 1 + 1 + 1) (fun j hj => by rw [hsz]; omega) hH (Below.refl _ _)
    (fun pre W => CutI w g off n c m P pre.length W) (fun _ _ _ => False) (CutI_kept w g off n c m P hbw.size) (fun _ _ _ _ _ h => h.elim) hI0
    (fun x a' W => a' = { tmps := #[.slice (some ⟨g, off, none⟩) n c, .slice (some ⟨gB, oB, none⟩) m d, .pointer (some ⟨w.heap.size, 0, none⟩), undef, .slice none 0 0, .pointer (some ⟨w.heap.size + 1 + 1, 0, none⟩), .pointer (some ⟨w.heap.size + 1 + 1 + 1, 0, none⟩), vi x, vi (P.getD x 0), .slice (some ⟨gB, oB, none⟩) m d, .int .i64 (m : Int), .slice (some ⟨w.heap.size + 1, 0, none⟩) m m, .slice (some ⟨g, off, none⟩) n c, .int .i64 (n : Int), .slice (some ⟨gB, oB, none⟩) m d, .func (.func 126) #[] #[.pointer (some ⟨w.heap.size + 1 + 1 + 1 + 1, 0, none⟩)], vi x, vi (P.getD x 0), undef, undef, undef, undef, undef, undef, undef, undef, undef], defers := [] })
    (fun x a' Y l o o' hs hl ho hc => hs)
    ?assign ?body ?done ?stop
  case assign =>
    rintro l pre x W Kc hI hKc
    gi_wp2
    exact hKc _ _ (KeepsFrom.refl _ _) (KpS.refl _ _) hI rfl
  case body =>
    rintro l9 pre x a' V hl9 hI rfl hpre
    obtain ⟨hk, hx⟩ := ydown_at m m pre x hpre
    obtain ⟨k, hkk⟩ : ∃ k, pre.length = k := ⟨_, rfl⟩
    rw [hkk] at hk hx
    have hI' : CutI w g off n c m P k V := by rw [← hkk]; exact hI
    have hq := CutI_more HP.out hI' hk
    have he := yen_now P n k (by rw [HP.out]; exact hk)
    rw [HP.out, ← hx] at he
    rw [← hx] at hq
    have hr := HR.out x (by rw [HP.out]; omega)
    have HF : Hid (KeepsFrom W0.heap.size V (((V.setCell ⟨w.heap.size + 1, x, none⟩ (ypc g off c P n x)).setCell ⟨w.heap.size + 1 + 1 + 1, 0, none⟩ (vi (P.getD x 0))).drew) ∧ KpS (fun j => j < w.heap.size ∨ j = w.heap.size + 1 + 1 + 1 + 1) V (((V.setCell ⟨w.heap.size + 1, x, none⟩ (ypc g off c P n x)).setCell ⟨w.heap.size + 1 + 1 + 1, 0, none⟩ (vi (P.getD x 0))).drew) ∧ CutI w g off n c m P (pre ++ [x]).length (((V.setCell ⟨w.heap.size + 1, x, none⟩ (ypc g off c P n x)).setCell ⟨w.heap.size + 1 + 1 + 1, 0, none⟩ (vi (P.getD x 0))).drew)) := Lib.hid ⟨⟨hq.2.1.1, fun j o hB hj ho => hq.2.1.2 j o (by have := hbw.size; omega) hj ho⟩, hq.2.2, by rw [List.length_append, hkk]; exact ⟨hq.1.1, hq.1.2.1, hq.1.2.2.1, hq.1.2.2.2.1, hq.1.2.2.2.2.drew⟩⟩
    obtain ⟨h1, h2, h3, h4, h6⟩ := hI'
    have c0 := h1.cell 0
    have c2 := h3.cell 0
    have c3 := h4.cell 0
    have f3 := h4.frozen 0
    have hxm : x < m := by omega
    have c1 : ∃ u, V.cell? ⟨w.heap.size + 1, x, none⟩ = some u := by
      have := h2.cell x
      rw [List.getElem?_toArray, List.getElem?_eq_getElem (by rw [ypcs_len]; exact hxm)] at this
      exact ⟨_, this⟩
    obtain ⟨u, c1⟩ := c1
    have f1 := h2.frozen x
    simp only [List.getElem?_toArray, List.getElem?_cons_zero] at c0 c2 c3
    rw [he] at c3
    have hv : ypc g off c P n x = .slice (some ⟨g, off + P.getD x 0, none⟩) (yend P n x - P.getD x 0) (c - P.getD x 0) := rfl
    rw [hv] at HF
    have hsl := ycutI_run g off n c (P.getD x 0) (yend P n x) hr.1 hr.2 hc
    clear hq hI h1 h2 h3 h4 h6 he hv hpre hkk hx hk hsz
    generalize P.getD x 0 = p at *
    generalize yend P n x = e at *
    have hmx : Tryz.prog.follows .mixedOrders = true := by kernel_rfl
    have i0 : (0 : Int) ≤ (x : Int) := by omega
    have i1 : (x : Int) < (m : Int) := by omega
    gi_wp2_with fail
    refine wpIn_region_any (by assumption) ?_
    refine wpAnyIn_round l9 (plain_all (by kernel_rfl)) _ _ _ _ ?_
    change wpAnyIn _ _ _ _ _ _ _ _ _ (World.drew _)
    refine wpAnyIn_take (i := 1) (oi := ⟨some 19, _, _, _, _, _⟩) (v := vi x) rfl rfl (by kernel_rfl) (by kernel_rfl) (by kernel_rfl) (fun _ _ _ h => h) ⟨Or.inl ⟨by rfl, ?_⟩, fun _ => rfl⟩ ?_
    · (intro w9; go_simp; try with_reducible rfl)
    try simp only [Act.put, List.setIfInBounds_toArray, List.set_cons_zero, List.set_cons_succ]
    refine wpAnyIn_take (i := 3) (oi := ⟨some 21, _, _, _, _, _⟩) (v := vi p) rfl rfl (by kernel_rfl) (by kernel_rfl) (by kernel_rfl) (fun _ _ _ h => h) ⟨Or.inl ⟨by rfl, ?_⟩, fun _ => rfl⟩ ?_
    · (intro w9; go_simp; try with_reducible rfl)
    try simp only [Act.put, List.setIfInBounds_toArray, List.set_cons_zero, List.set_cons_succ]
    refine wpAnyIn_ready (rs := [0, 2, 4]) (by kernel_rfl) (by simp) ?_
    refine AllReadyIn.cons (o := ⟨some 18, _, _, _, _, _⟩) rfl (fun K9 hK9 => ?_) ?_
    · skip
      go_simp
      refine hK9 _ _ ?_
      clear hK9 K9
      try simp only [Act.put, List.setIfInBounds_toArray, List.set_cons_zero, List.set_cons_succ]
      refine wpAnyIn_ready (rs := [2, 4]) (by kernel_rfl) (by simp) ?_
      refine AllReadyIn.cons (o := ⟨some 20, _, _, _, _, _⟩) rfl (fun K9 hK9 => ?_) ?_
      · skip
        go_simp
        refine hK9 _ _ ?_
        clear hK9 K9
        try simp only [Act.put, List.setIfInBounds_toArray, List.set_cons_zero, List.set_cons_succ]
        refine wpAnyIn_ready (rs := [4]) (by kernel_rfl) (by simp) ?_
        refine AllReadyIn.cons (o := ⟨some 22, _, _, _, _, _⟩) rfl (fun K9 hK9 => ?_) AllReadyIn.nil
        go_simp
        refine hK9 _ _ ?_
        clear hK9 K9
        try simp only [Act.put, List.setIfInBounds_toArray, List.set_cons_zero, List.set_cons_succ]
        refine wpAnyIn_take (i := 5) (oi := ⟨some 23, _, _, _, _, _⟩) (v := .slice (some ⟨g, off + p, none⟩) (e - p) (c - p)) rfl rfl (by kernel_rfl) (by kernel_rfl) (by kernel_rfl) (fun _ _ _ h => h) ⟨Or.inl ⟨by rfl, ?_⟩, fun _ => rfl⟩ ?_
        · (intro w9; go_simp; try with_reducible rfl)
        try simp only [Act.put, List.setIfInBounds_toArray, List.set_cons_zero, List.set_cons_succ]
        refine wpAnyIn_take (i := 6) (oi := ⟨some 24, _, _, _, _, _⟩) (v := .pointer (some ⟨w.heap.size + 1, x, none⟩)) rfl rfl (by kernel_rfl) (by kernel_rfl) (by kernel_rfl) (fun _ _ _ h => h) ⟨Or.inl ⟨by rfl, ?_⟩, fun _ => rfl⟩ ?_
        · (intro w9; go_simp; try with_reducible rfl)
        try simp only [Act.put, List.setIfInBounds_toArray, List.set_cons_zero, List.set_cons_succ]
        refine wpAnyIn_ready (rs := [7]) (by kernel_rfl) (by simp) ?_
        refine AllReadyIn.cons (o := ⟨none, _, _, _, _, _⟩) rfl (fun K9 hK9 => ?_) AllReadyIn.nil
        go_simp
        refine hK9 _ _ ?_
        clear hK9 K9
        try simp only [Act.put]
        refine wpAnyIn_done (by kernel_rfl) ?_ _
        simp only [Exit.then]
        go_at_K
        gi_wp2_with fail
        exact HF.out
      refine AllReadyIn.cons (o := ⟨some 22, _, _, _, _, _⟩) rfl (fun K9 hK9 => ?_) AllReadyIn.nil
      go_simp
      refine hK9 _ _ ?_
      clear hK9 K9
      try simp only [Act.put, List.setIfInBounds_toArray, List.set_cons_zero, List.set_cons_succ]
      refine wpAnyIn_ready (rs := [2]) (by kernel_rfl) (by simp) ?_
      refine AllReadyIn.cons (o := ⟨some 20, _, _, _, _, _⟩) rfl (fun K9 hK9 => ?_) AllReadyIn.nil
      go_simp
      refine hK9 _ _ ?_
      clear hK9 K9
      try simp only [Act.put, List.setIfInBounds_toArray, List.set_cons_zero, List.set_cons_succ]
      refine wpAnyIn_take (i := 5) (oi := ⟨some 23, _, _, _, _, _⟩) (v := .slice (some ⟨g, off + p, none⟩) (e - p) (c - p)) rfl rfl (by kernel_rfl) (by kernel_rfl) (by kernel_rfl) (fun _ _ _ h => h) ⟨Or.inl ⟨by rfl, ?_⟩, fun _ => rfl⟩ ?_
      · (intro w9; go_simp; try with_reducible rfl)
      try simp only [Act.put, List.setIfInBounds_toArray, List.set_cons_zero, List.set_cons_succ]
      refine wpAnyIn_take (i := 6) (oi := ⟨some 24, _, _, _, _, _⟩) (v := .pointer (some ⟨w.heap.size + 1, x, none⟩)) rfl rfl (by kernel_rfl) (by kernel_rfl) (by kernel_rfl) (fun _ _ _ h => h) ⟨Or.inl ⟨by rfl, ?_⟩, fun _ => rfl⟩ ?_
      · (intro w9; go_simp; try with_reducible rfl)
      try simp only [Act.put, List.setIfInBounds_toArray, List.set_cons_zero, List.set_cons_succ]
      refine wpAnyIn_ready (rs := [7]) (by kernel_rfl) (by simp) ?_
      refine AllReadyIn.cons (o := ⟨none, _, _, _, _, _⟩) rfl (fun K9 hK9 => ?_) AllReadyIn.nil
      go_simp
      refine hK9 _ _ ?_
      clear hK9 K9
      try simp only [Act.put]
      refine wpAnyIn_done (by kernel_rfl) ?_ _
      simp only [Exit.then]
      go_at_K
      gi_wp2_with fail
      exact HF.out
    refine AllReadyIn.cons (o := ⟨some 20, _, _, _, _, _⟩) rfl (fun K9 hK9 => ?_) ?_
    · skip
      go_simp
      refine hK9 _ _ ?_
      clear hK9 K9
      try simp only [Act.put, List.setIfInBounds_toArray, List.set_cons_zero, List.set_cons_succ]
      refine wpAnyIn_ready (rs := [0, 4]) (by kernel_rfl) (by simp) ?_
      refine AllReadyIn.cons (o := ⟨some 18, _, _, _, _, _⟩) rfl (fun K9 hK9 => ?_) ?_
      · skip
        go_simp
        refine hK9 _ _ ?_
        clear hK9 K9
        try simp only [Act.put, List.setIfInBounds_toArray, List.set_cons_zero, List.set_cons_succ]
        refine wpAnyIn_ready (rs := [4]) (by kernel_rfl) (by simp) ?_
        refine AllReadyIn.cons (o := ⟨some 22, _, _, _, _, _⟩) rfl (fun K9 hK9 => ?_) AllReadyIn.nil
        go_simp
        refine hK9 _ _ ?_
        clear hK9 K9
        try simp only [Act.put, List.setIfInBounds_toArray, List.set_cons_zero, List.set_cons_succ]
        refine wpAnyIn_take (i := 5) (oi := ⟨some 23, _, _, _, _, _⟩) (v := .slice (some ⟨g, off + p, none⟩) (e - p) (c - p)) rfl rfl (by kernel_rfl) (by kernel_rfl) (by kernel_rfl) (fun _ _ _ h => h) ⟨Or.inl ⟨by rfl, ?_⟩, fun _ => rfl⟩ ?_
        · (intro w9; go_simp; try with_reducible rfl)
        try simp only [Act.put, List.setIfInBounds_toArray, List.set_cons_zero, List.set_cons_succ]
        refine wpAnyIn_take (i := 6) (oi := ⟨some 24, _, _, _, _, _⟩) (v := .pointer (some ⟨w.heap.size + 1, x, none⟩)) rfl rfl (by kernel_rfl) (by kernel_rfl) (by kernel_rfl) (fun _ _ _ h => h) ⟨Or.inl ⟨by rfl, ?_⟩, fun _ => rfl⟩ ?_
        · (intro w9; go_simp; try with_reducible rfl)
        try simp only [Act.put, List.setIfInBounds_toArray, List.set_cons_zero, List.set_cons_succ]
        refine wpAnyIn_ready (rs := [7]) (by kernel_rfl) (by simp) ?_
        refine AllReadyIn.cons (o := ⟨none, _, _, _, _, _⟩) rfl (fun K9 hK9 => ?_) AllReadyIn.nil
        go_simp
        refine hK9 _ _ ?_
        clear hK9 K9
        try simp only [Act.put]
        refine wpAnyIn_done (by kernel_rfl) ?_ _
        simp only [Exit.then]
        go_at_K
        gi_wp2_with fail
        exact HF.out
      refine AllReadyIn.cons (o := ⟨some 22, _, _, _, _, _⟩) rfl (fun K9 hK9 => ?_) AllReadyIn.nil
      go_simp
      refine hK9 _ _ ?_
      clear hK9 K9
      try simp only [Act.put, List.setIfInBounds_toArray, List.set_cons_zero, List.set_cons_succ]
      refine wpAnyIn_take (i := 5) (oi := ⟨some 23, _, _, _, _, _⟩) (v := .slice (some ⟨g, off + p, none⟩) (e - p) (c - p)) rfl rfl (by kernel_rfl) (by kernel_rfl) (by kernel_rfl) (fun _ _ _ h => h) ⟨Or.inl ⟨by rfl, ?_⟩, fun _ => rfl⟩ ?_
      · (intro w9; go_simp; try with_reducible rfl)
      try simp only [Act.put, List.setIfInBounds_toArray, List.set_cons_zero, List.set_cons_succ]
      refine wpAnyIn_ready (rs := [0]) (by kernel_rfl) (by simp) ?_
      refine AllReadyIn.cons (o := ⟨some 18, _, _, _, _, _⟩) rfl (fun K9 hK9 => ?_) AllReadyIn.nil
      go_simp
      refine hK9 _ _ ?_
      clear hK9 K9
      try simp only [Act.put, List.setIfInBounds_toArray, List.set_cons_zero, List.set_cons_succ]
      refine wpAnyIn_take (i := 6) (oi := ⟨some 24, _, _, _, _, _⟩) (v := .pointer (some ⟨w.heap.size + 1, x, none⟩)) rfl rfl (by kernel_rfl) (by kernel_rfl) (by kernel_rfl) (fun _ _ _ h => h) ⟨Or.inl ⟨by rfl, ?_⟩, fun _ => rfl⟩ ?_
      · (intro w9; go_simp; try with_reducible rfl)
      try simp only [Act.put, List.setIfInBounds_toArray, List.set_cons_zero, List.set_cons_succ]
      refine wpAnyIn_ready (rs := [7]) (by kernel_rfl) (by simp) ?_
      refine AllReadyIn.cons (o := ⟨none, _, _, _, _, _⟩) rfl (fun K9 hK9 => ?_) AllReadyIn.nil
      go_simp
      refine hK9 _ _ ?_
      clear hK9 K9
      try simp only [Act.put]
      refine wpAnyIn_done (by kernel_rfl) ?_ _
      simp only [Exit.then]
      go_at_K
      gi_wp2_with fail
      exact HF.out
    refine AllReadyIn.cons (o := ⟨some 22, _, _, _, _, _⟩) rfl (fun K9 hK9 => ?_) AllReadyIn.nil
    go_simp
    refine hK9 _ _ ?_
    clear hK9 K9
    try simp only [Act.put, List.setIfInBounds_toArray, List.set_cons_zero, List.set_cons_succ]
    refine wpAnyIn_ready (rs := [0, 2]) (by kernel_rfl) (by simp) ?_
    refine AllReadyIn.cons (o := ⟨some 18, _, _, _, _, _⟩) rfl (fun K9 hK9 => ?_) ?_
    · skip
      go_simp
      refine hK9 _ _ ?_
      clear hK9 K9
      try simp only [Act.put, List.setIfInBounds_toArray, List.set_cons_zero, List.set_cons_succ]
      refine wpAnyIn_ready (rs := [2]) (by kernel_rfl) (by simp) ?_
      refine AllReadyIn.cons (o := ⟨some 20, _, _, _, _, _⟩) rfl (fun K9 hK9 => ?_) AllReadyIn.nil
      go_simp
      refine hK9 _ _ ?_
      clear hK9 K9
      try simp only [Act.put, List.setIfInBounds_toArray, List.set_cons_zero, List.set_cons_succ]
      refine wpAnyIn_take (i := 5) (oi := ⟨some 23, _, _, _, _, _⟩) (v := .slice (some ⟨g, off + p, none⟩) (e - p) (c - p)) rfl rfl (by kernel_rfl) (by kernel_rfl) (by kernel_rfl) (fun _ _ _ h => h) ⟨Or.inl ⟨by rfl, ?_⟩, fun _ => rfl⟩ ?_
      · (intro w9; go_simp; try with_reducible rfl)
      try simp only [Act.put, List.setIfInBounds_toArray, List.set_cons_zero, List.set_cons_succ]
      refine wpAnyIn_take (i := 6) (oi := ⟨some 24, _, _, _, _, _⟩) (v := .pointer (some ⟨w.heap.size + 1, x, none⟩)) rfl rfl (by kernel_rfl) (by kernel_rfl) (by kernel_rfl) (fun _ _ _ h => h) ⟨Or.inl ⟨by rfl, ?_⟩, fun _ => rfl⟩ ?_
      · (intro w9; go_simp; try with_reducible rfl)
      try simp only [Act.put, List.setIfInBounds_toArray, List.set_cons_zero, List.set_cons_succ]
      refine wpAnyIn_ready (rs := [7]) (by kernel_rfl) (by simp) ?_
      refine AllReadyIn.cons (o := ⟨none, _, _, _, _, _⟩) rfl (fun K9 hK9 => ?_) AllReadyIn.nil
      go_simp
      refine hK9 _ _ ?_
      clear hK9 K9
      try simp only [Act.put]
      refine wpAnyIn_done (by kernel_rfl) ?_ _
      simp only [Exit.then]
      go_at_K
      gi_wp2_with fail
      exact HF.out
    refine AllReadyIn.cons (o := ⟨some 20, _, _, _, _, _⟩) rfl (fun K9 hK9 => ?_) AllReadyIn.nil
    go_simp
    refine hK9 _ _ ?_
    clear hK9 K9
    try simp only [Act.put, List.setIfInBounds_toArray, List.set_cons_zero, List.set_cons_succ]
    refine wpAnyIn_take (i := 5) (oi := ⟨some 23, _, _, _, _, _⟩) (v := .slice (some ⟨g, off + p, none⟩) (e - p) (c - p)) rfl rfl (by kernel_rfl) (by kernel_rfl) (by kernel_rfl) (fun _ _ _ h => h) ⟨Or.inl ⟨by rfl, ?_⟩, fun _ => rfl⟩ ?_
    · (intro w9; go_simp; try with_reducible rfl)
    try simp only [Act.put, List.setIfInBounds_toArray, List.set_cons_zero, List.set_cons_succ]
    refine wpAnyIn_ready (rs := [0]) (by kernel_rfl) (by simp) ?_
    refine AllReadyIn.cons (o := ⟨some 18, _, _, _, _, _⟩) rfl (fun K9 hK9 => ?_) AllReadyIn.nil
    go_simp
    refine hK9 _ _ ?_
    clear hK9 K9
    try simp only [Act.put, List.setIfInBounds_toArray, List.set_cons_zero, List.set_cons_succ]
    refine wpAnyIn_take (i := 6) (oi := ⟨some 24, _, _, _, _, _⟩) (v := .pointer (some ⟨w.heap.size + 1, x, none⟩)) rfl rfl (by kernel_rfl) (by kernel_rfl) (by kernel_rfl) (fun _ _ _ h => h) ⟨Or.inl ⟨by rfl, ?_⟩, fun _ => rfl⟩ ?_
    · (intro w9; go_simp; try with_reducible rfl)
    try simp only [Act.put, List.setIfInBounds_toArray, List.set_cons_zero, List.set_cons_succ]
    refine wpAnyIn_ready (rs := [7]) (by kernel_rfl) (by simp) ?_
    refine AllReadyIn.cons (o := ⟨none, _, _, _, _, _⟩) rfl (fun K9 hK9 => ?_) AllReadyIn.nil
    go_simp
    refine hK9 _ _ ?_
    clear hK9 K9
    try simp only [Act.put]
    refine wpAnyIn_done (by kernel_rfl) ?_ _
    simp only [Exit.then]
    go_at_K
    gi_wp2_with fail
    exact HF.out
  case done =>
    rintro D W hD hI hKd
    rw [ydown_len] at hI
    obtain ⟨h1, h2, h3, h4, h6⟩ := hI
    have c2 := h3.cell 0
    simp only [List.getElem?_toArray, List.getElem?_cons_zero] at c2
    have HF : Hid (Blk (W.putObj D (.deferred none)) (w.heap.size + 1) 36 (ypcs g off c P n m m).toArray) := Lib.hid (vblk_putObj h2 hKd rfl)
    have HBW : Hid (Below w.heap.size w (W.putObj D (.deferred none))) := Lib.hid (h6.grown (grownBy_putObj' W D _) h6.size (fun k e => by cases e; have := hbw.size; omega))
    clear h1 h2 h3 h4 h6 hI0 hH hsz
    gi_wp2
    refine ⟨by simp, .inl ⟨_, _, rfl, run_takeDeferred hKd, ?_⟩⟩
    exact ⟨_, by kernel_rfl, rfl, HF.out, HBW.out⟩
  case stop =>
    rintro D c pre W hD hp h
    exact h.elim
end Go.Proofs.YtjonhenllhnibaaGreatDoor
/- The contract of higher: the places that are higher than a level, in a row of their own. -/
namespace Go.Proofs.YtjonhenllhnibaaGreatDoor
open Go.RowKit

set_option maxRecDepth 100000 in
set_option maxHeartbeats 4000000 in
theorem yhigher_any (A : Option Addr) (n c lev : Nat) (V : List Nat) (w : World) (hA : VR vi w A V) (hl : V.length = n) (hn : n ≤ 65536) :
    Calls Tryz.prog 80 #[.slice A n c, .int .i64 (lev : Int)] w fun e w' => ∃ B d m, m = (yhi V lev n).length ∧ e = .returned (.slice B m d) ∧ w'.ownsRow w.heap.size 3 1 (.slice B m d) m ((yhi V lev n).map vi) ∧ Below w.heap.size w w' := by
  obtain ⟨ti, hti, hz0, hz1, hz2⟩ := info_parts infoVI
  have HR := Lib.hid (fun j W (hj : j < n) (hb : Below w.heap.size w W) => (hA.later hb) j (by omega))
  have HY := Lib.hid (fun j (h : lev < V.getD j 0) => yhi_yes h)
  have HN := Lib.hid (fun j (h : ¬ lev < V.getD j 0) => yhi_no h)
  have HC := Lib.hid (yhi_len V lev)
  have HZ := Lib.hid (yhi_zero V lev)
  clear hA hl
  generalize yhi V lev = T at *
  have HO : Hid (w.ownsRow w.heap.size 3 1 (.slice none 0 0) 0 ((T 0).map vi)) := Lib.hid (by rw [HZ.out]; exact World.ownsRow_nil _ _ _ _)
  go_enter Tryz.func80, Tryz.ntmps80
  go_wp2_with fail
  go_loopw [5, 10] (fun ov iv wr => ∃ (j m c5 : Nat) (B : Option Addr), j ≤ n ∧ iv = .int .i64 (j : Int) ∧ ov = .slice B m c5 ∧ Hid (m = (T j).length ∧ m ≤ j) ∧ Hid (wr.ownsRow w.heap.size 3 1 (.slice B m c5) m ((T j).map vi)) ∧ Hid (Below w.heap.size w wr)) (fun _ i _ => n - (intOf i).toNat)
  case atStart => exact ⟨0, 0, 0, none, Nat.zero_le _, rfl, rfl, Lib.hid ⟨by rw [HZ.out]; rfl, Nat.le_refl _⟩, HO, Lib.hid (Below.refl _ _)⟩
  case round =>
    clear HO
    obtain ⟨j, m, c5, B, hj, rfl, rfl, HM, HO, HB⟩ := hrel
    by_cases hlt : j < n
    · obtain ⟨g, off, rfl, c0⟩ := HR.out j wr hlt HB.out
      have HYj := Lib.hid (HY.out j)
      have HNj := Lib.hid (HN.out j)
      generalize V.getD j 0 = y at c0 HYj HNj
      have i0 : (0 : Int) ≤ (j : Int) := by omega
      have i1 : (j : Int) < (n : Int) := by omega
      have hm : m ≤ 65536 := by have := HM.out.2; omega
      by_cases hh : lev < y
      · have HT2 := Lib.hid (HYj.out hh)
        have HM2 : Hid (m + 1 = (T (j + 1)).length ∧ m + 1 ≤ j + 1) := Lib.hid ⟨by rw [HT2.out, List.length_append, ← HM.out.1]; rfl, by have := HM.out.2; omega⟩
        have hh1 : (lev : Int) < (y : Int) := by omega
        clear HYj HNj hh
        have hownA := HO.out.alloc (.cells #[vi j] 3)
        have hnews := World.news_of_block (heap_alloc_new wr (.cells #[vi j] 3))
        have B3 := Lib.hid (ba HB.out (.cells #[vi j] 3))
        go_wp2_with (at_builtin; refine wpList_append_own _ rfl _ _ 36 rfl w.heap.size 3 ti _ 1 8 Tryz.underlying36 hti hz0 hz1 hz2 rfl (by decide) _ _ _ rfl hownA ⟨wr.heap.size, 0, none⟩ 1 1 [vi j] rfl rfl hnews (by simp [Value.oneCell']) (by unfold maxLen; omega) (by omega) (by have := B3.out.size; exact this) ?_; intro v4 w5 hown5 hgrow5 _; obtain ⟨g6, c6, rfl⟩ := ownsRow_succ hown5)
        have B5 := Lib.hid (B3.out.grown hgrow5 B3.out.size (fun k e => by have := (hownA.lt k e).1; omega))
        have W5 : Hid (w5.ownsRow w.heap.size 3 1 (.slice (some ⟨g6, 0, none⟩) (m + 1) c6) (m + 1) ((T (j + 1)).map vi)) := Lib.hid (by rw [HT2.out, List.map_append]; exact hown5)
        clear hown5 hgrow5 hnews hownA
        go_wp2_with fail
        exact ⟨⟨j + 1, m + 1, c6, _, by omega, by go_num, rfl, HM2, W5, B5⟩, by simp [intOf]; omega⟩
      · have HT2 := Lib.hid (HNj.out hh)
        have HM2 : Hid (m = (T (j + 1)).length ∧ m ≤ j + 1) := Lib.hid ⟨by rw [HT2.out, ← HM.out.1], by have := HM.out.2; omega⟩
        have HO2 : Hid (wr.ownsRow w.heap.size 3 1 (.slice B m c5) m ((T (j + 1)).map vi)) := Lib.hid (by rw [HT2.out]; exact HO.out)
        have hh1 : ¬ (lev : Int) < (y : Int) := by omega
        clear HYj HNj hh
        go_wp2_with fail
        exact ⟨⟨j + 1, m, c5, B, by omega, by go_num, rfl, HM2, HO2, HB⟩, by simp [intOf]; omega⟩
    · obtain rfl : j = n := by omega
      go_wp2
      go_ret
      exact ⟨B, c5, m, HM.out.1, rfl, HO.out, HB.out⟩
end Go.Proofs.YtjonhenllhnibaaGreatDoor
