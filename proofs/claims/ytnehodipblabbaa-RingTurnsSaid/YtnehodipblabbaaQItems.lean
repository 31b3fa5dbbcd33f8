/- The contracts of Items. -/
import Derived.Test.YtnehodipblabbaaQRight
import Derived.Test.YtnehodipblabbaaStepIn
namespace Go.Proofs.Ytnehodipblabbaa
open Go.RowKit Go.Shelf
attribute [local go_sem] Oper.semAt_some

theorem qown_kept {W W' : World} {base : Nat} {e : TypeId} {size : Nat} {v : Value} {n : Nat} {xs : List Value} (h : W.ownsRow base e size v n xs) (hk : ∀ k, v.ownBlock = some k → W'.heap[k]? = W.heap[k]?) : W'.ownsRow base e size v n xs := by
  refine ⟨h.1, ?_⟩
  rcases h.2 with h2 | ⟨g, cap, cur, hv, hg, hh, r⟩
  · exact Or.inl h2
  · exact Or.inr ⟨g, cap, cur, hv, hg, (hk g (by rw [hv]; rfl)).trans hh, r⟩
theorem qown_blk {W : World} {base : Nat} {e : TypeId} {size : Nat} {v : Value} {n : Nat} {xs : List Value} (h : W.ownsRow base e size v n xs) (k : Nat) (hk : v.ownBlock = some k) : base ≤ k ∧ ∃ cs, Blk W k e cs := by
  rcases h.2 with ⟨h2, _⟩ | ⟨g, cap, cur, hv, hg, hh, r⟩
  · rw [h2] at hk; cases hk
  · rw [hv] at hk
    cases hk
    exact ⟨hg, cur, hh⟩
theorem qown_ne {w : World} {g : Nat} {t : TypeId} {cs : Array Value} {base : Nat} {e : TypeId} {size n : Nat} {v : Value} {xs : List Value} (h : w.ownsRow base e size v n xs) (hg : Blk w g t cs) (hne : e ≠ t) : v.ownBlock ≠ some g := by
  intro he
  obtain ⟨_, cs2, hb⟩ := qown_blk h g he
  have h9 : some (Obj.cells cs t (0, 0)) = some (Obj.cells cs2 e (0, 0)) := (show w.heap[g]? = _ from hg).symm.trans hb
  injection h9 with h9
  injection h9 with _ h9
  exact hne h9.symm
theorem qkeeps_grown {B : Nat} {W W' : World} {row : Option Nat} (h : W.grownBy W' row) (hr : ∀ k, row = some k → ∃ t cs, Blk W k t cs) : KeepsFrom B W W' :=
  (show KeepsOthers W W' from ⟨h.size, fun k o hk hc => (h.block k (Array.getElem?_eq_some_iff.1 hk).1 (fun e => by
    obtain ⟨t, cs, hb⟩ := hr k e.symm
    rw [show W.heap[k]? = _ from hb] at hk
    cases hk
    cases hc)).trans hk⟩).from _
/-- The texts of some slots, as cells. -/
def TQ (L : List (List UInt8)) (pre : List Nat) : List Value := pre.map fun x => sv (L.getD x [])
theorem TQ_more (L : List (List UInt8)) (pre : List Nat) (x : Nat) : TQ L (pre ++ [x]) = TQ L pre ++ [sv (L.getD x [])] := by simp [TQ]
theorem TQ_items {L : List (List UInt8)} {n f m : Nat} (hl : L.length = n) : TQ L (qturn n f 0 m) = (qitems L f m).map sv := by
  subst hl
  simp [TQ, qturn, qitems, qat]
/-- Between two rounds. -/
def ItemsI (w : World) (A : Option Addr) (n c f m G : Nat) (L : List (List UInt8)) (pre : List Nat) (W : World) : Prop :=
  ∃ v, Blk W w.heap.size 24 (qcs A n c (f : Int) (m : Int)) ∧ Blk W G 22 #[v] ∧ W.ownsRow w.heap.size 9 1 v pre.length (TQ L pre) ∧ Below w.heap.size w W
theorem ItemsI_kept (w : World) (A : Option Addr) (n c f m G : Nat) (L : List (List UInt8)) {B : Nat} (hB : w.heap.size ≤ B) : KeptQ B (ItemsI w A n c f m G L) := by
  rintro s W W' row ⟨v, h1, h2, h3, h6⟩ hg hr
  refine ⟨v, hr.blk hg h1, hr.blk hg h2, qown_kept h3 (fun k hk => ?_), h6.grown hg h6.size (fun k e => Nat.le_trans hB (hr k e).1)⟩
  obtain ⟨_, cs, hb⟩ := qown_blk h3 k hk
  exact (hr.blk hg hb).trans hb.symm
/-- A round's end. -/
theorem ItemsI_more {w : World} {A : Option Addr} {n c f m G : Nat} {L : List (List UInt8)} {pre : List Nat} {x : Nat} {V w6 : World} {v v6 : Value} {t : List UInt8} (ht : L.getD x [] = t)
    (h1 : Blk V w.heap.size 24 (qcs A n c (f : Int) (m : Int))) (h2 : Blk V G 22 #[v]) (h3 : V.ownsRow w.heap.size 9 1 v pre.length (TQ L pre)) (h4 : Below w.heap.size w V) (hG : w.heap.size < G)
    (g1 : w6.ownsRow w.heap.size 9 1 v6 (pre.length + 1) (TQ L pre ++ [sv t])) (g2 : (V.alloc (.cells #[sv t] 9)).grownBy w6 v.ownBlock) :
    (w6.cell? ⟨G, 0, none⟩ = some v ∧ w6.frozen? ⟨G, 0, none⟩ = false) ∧ (KeepsFrom w.heap.size V (w6.setCell ⟨G, 0, none⟩ v6) ∧ KpQ w.heap.size V (w6.setCell ⟨G, 0, none⟩ v6) ∧ ItemsI w A n c f m G L (pre ++ [x]) (w6.setCell ⟨G, 0, none⟩ v6)) := by
  have hbb := ba (Below.refl V.heap.size V) (.cells #[sv t] 9)
  have hown := own_later h3 hbb
  have hrow : ∀ k, v.ownBlock = some k → w.heap.size ≤ k ∧ ∃ cs, Blk (V.alloc (.cells #[sv t] 9)) k 9 cs := fun k hk => qown_blk hown k hk
  have j1 : Blk w6 w.heap.size 24 (qcs A n c (f : Int) (m : Int)) := (g2.block _ (Nat.lt_of_lt_of_le h1.lt hbb.size) (fun e => qown_ne hown (h1.below hbb) (by decide) e.symm)).trans (h1.below hbb)
  have j2 : Blk w6 G 22 #[v] := (g2.block _ (Nat.lt_of_lt_of_le h2.lt hbb.size) (fun e => qown_ne hown (h2.below hbb) (by decide) e.symm)).trans (h2.below hbb)
  have h6 : Below w.heap.size w w6 := (bt h4 hbb).grown g2 (bt h4 hbb).size (fun k e => (hrow k e).1)
  have hne6 : ∀ k, v6.ownBlock = some k → k ≠ G := fun k hk e => qown_ne g1 j2 (by decide) (by rw [hk, e])
  have hsz := h4.size
  refine ⟨⟨j2.cell 0, j2.frozen 0⟩, ?_, ?_, v6, j1.far (by simp; omega) _, j2.set_ 0 v6, ?_, bs h6 (by omega) _⟩
  · exact (((KeepsOthers.alloc _ _).from _).trans (qkeeps_grown g2 (fun k e => ⟨_, (hrow k e).2⟩))).trans ((KeepsOthers.setCell _ _ _).from _)
  · exact (KpQ.of_below hbb hsz).trans ((KpQ.grown g2 (Nat.le_trans hsz hbb.size) hrow).trans (KpQ.set_ j2 (.inr rfl) (by omega) 0 v6))
  · rw [List.length_append, TQ_more, ht]
    exact qown_kept g1 (fun k hk => Below.heap_setCell w6 ⟨G, 0, none⟩ v6 k (hne6 k hk))

set_option maxRecDepth 100000 in
set_option maxHeartbeats 4000000 in
theorem items_bad (A : Option Addr) (n c : Nat) (f m : Int) (L : List (List UInt8)) (w : World) (hM : QM w A n c L) (hr : qright L f m = false) :
    Calls Try.prog 15 #[qv A n c f m] w fun e w' => e = .returned (.tuple #[.slice none 0 0, .int .i64 1]) ∧ Below w.heap.size w w' := by
  have HR := Lib.hid (fun W (hb : Below w.heap.size w W) => qright_any A n c f m L W (hM.later hb))
  rw [hr] at HR
  clear hM hr
  have HB := Lib.hid (qbox_below w A n c f m)
  go_enter Try.func15, Try.ntmps15
  go_wp2_with fail
  refine (HR.out _ HB.out).mono ?_
  rintro e1 w1 ⟨rfl, hb1⟩
  have B1 := Lib.hid (bt HB.out hb1)
  clear hb1
  go_wp2
  go_ret2
  exact ⟨rfl, B1.out⟩

set_option maxRecDepth 100000 in
set_option maxHeartbeats 8000000 in
/-- Items, of a ring that may be. -/
theorem items_yes (A : Option Addr) (n c f m : Nat) (L : List (List UInt8)) (w : World) (hM : QM w A n c L) (hr : QR L f m) :
    Calls Try.prog 15 #[qv A n c (f : Int) (m : Int)] w fun e w' => ∃ A' c', e = .returned (.tuple #[.slice A' m c', .int .i64 0]) ∧ w'.ownsRow w.heap.size 9 1 (.slice A' m c') m ((qitems L f m).map sv) ∧ Below w.heap.size w w' := by
  obtain ⟨i0, hi0, hz0, hz1, hz2⟩ := info_parts infoS
  have HR : Hid (∀ W, Below w.heap.size w W → Calls Try.prog 8 #[qv A n c (f : Int) (m : Int)] W fun e w' => e = .returned (.bool true) ∧ Below W.heap.size W w') := Lib.hid fun W hb => by have := qright_any A n c f m L W (hM.later hb); rwa [qright_mk hr] at this
  have h1 := hr.lo
  have h2 := hr.hi
  have h3 := hr.start
  have h4 := hr.many
  rw [hM.len] at h1 h2 h3 h4
  have HX : Hid (∀ x ∈ qturn n f 0 m, x < n) := Lib.hid fun x hx => by
    obtain ⟨t, _, rfl⟩ := List.mem_map.1 hx
    exact qs_lt h1
  have HM := Lib.hid hM
  have HE := Lib.hid (TQ_items (L := L) (f := f) (m := m) hM.len)
  have HL := Lib.hid (qturn_len n f 0 m)
  clear hM hr
  have HB0 := Lib.hid (qbox_below w A n c (f : Int) (m : Int))
  have HK0 := Lib.hid (qbox_blk w A n c (f : Int) (m : Int))
  refine (callsIn_wide (n := 6)).1 ?_
  refine callsIn_of_wp_marks Try.func15 rfl trivial ?_ rfl
  simp only [Try.ntmps15, List.size_toArray, List.length_cons, List.length_nil, Nat.reduceAdd, Nat.reduceSub, Array.replicate_succ, Array.replicate_zero, List.push_toArray, List.append_toArray, List.nil_append, List.cons_append]
  gi_wp2_with fail
  refine ⟨trivial, ?_⟩
  refine (callsIn_wide.2 (HR.out _ HB0.out)).mono ?_
  rintro e w1 ⟨rfl, hb1⟩
  have HB1 := Lib.hid (ba (bt HB0.out hb1) (.cells #[.slice none 0 0] 22))
  have HK1 := Lib.hid ((HK0.out.below hb1).alloc (.cells #[.slice none 0 0] 22))
  have HG1 := Lib.hid (Blk.new w1 22 #[.slice none 0 0])
  have hz : w.heap.size < w1.heap.size := (HK0.out.below hb1).lt
  obtain ⟨⟨q0, q1, q2⟩, _⟩ := qcells HK1.out
  clear hb1 HR HB0 HK0
  gi_wp2_with fail
  have z1 : (w1.alloc (.cells #[.slice none 0 0] 22)).heap.size = w1.heap.size + 1 := by simp
  generalize w1.alloc (.cells #[.slice none 0 0] 22) = v at *
  refine ⟨trivial, ?_⟩
  refine (callsIn_wide.2 (turned_any A n c f m 0 m _)).mono ?_
  rintro e w3 ⟨rfl, rfl⟩
  rw [z1]
  generalize w1.heap.size = G at HG1 hz z1 ⊢
  have K0 := ((HK1.out.alloc (.cells (qcs A n c (f : Int) (m : Int)) 24)).alloc (.cells #[.int .i64 0] 3)).alloc (.cells #[.int .i64 (m : Int)] 3)
  have K1 := ((HG1.out.alloc (.cells (qcs A n c (f : Int) (m : Int)) 24)).alloc (.cells #[.int .i64 0] 3)).alloc (.cells #[.int .i64 (m : Int)] 3)
  have HB := ba (ba (ba HB1.out (.cells (qcs A n c (f : Int) (m : Int)) 24)) (.cells #[.int .i64 0] 3)) (.cells #[.int .i64 (m : Int)] 3)
  have k2 := ((Blk.newAt z1 24 (qcs A n c (f : Int) (m : Int))).alloc (.cells #[.int .i64 0] 3)).alloc (.cells #[.int .i64 (m : Int)] 3)
  have k3 := (Blk.newAt (w := v.alloc (.cells (qcs A n c (f : Int) (m : Int)) 24)) (g := G + 1 + 1) (by simp [z1]) 3 #[.int .i64 0]).alloc (.cells #[.int .i64 (m : Int)] 3)
  have k4 := Blk.newAt (w := (v.alloc (.cells (qcs A n c (f : Int) (m : Int)) 24)).alloc (.cells #[.int .i64 0] 3)) (g := G + 1 + 2) (by simp [z1]) 3 #[.int .i64 (m : Int)]
  have z4 : (((v.alloc (.cells (qcs A n c (f : Int) (m : Int)) 24)).alloc (.cells #[.int .i64 0] 3)).alloc (.cells #[.int .i64 (m : Int)] 3)).heap.size = G + 4 := by simp [z1]
  generalize ((v.alloc (.cells (qcs A n c (f : Int) (m : Int)) 24)).alloc (.cells #[.int .i64 0] 3)).alloc (.cells #[.int .i64 (m : Int)] 3) = W0 at *
  have eg : ∀ args w, (callFunc 27 args).run Try.prog w = .ok (.enter 27 args) w := enters_of Try.func27 (by kernel_rfl) rfl
  have HHA := turn_hands 5 (by omega) _ _ _ n c f 0 m (m : Int) A w W0 h1 (by omega) (by omega) (by omega) k3 (by rw [show 0 + m = m by omega]; exact k4) k2
  clear k2 k3 k4 HB1 HK1 HG1 z1 q0 q1 q2
  generalize qturn n f 0 m = zs at *
  gi_wp2_with fail
  refine range_one (e1 := qe) (n := 6) (w0 := W0) (by omega) (gf := 27) (lb := #[.pointer (some ⟨G + 1 + 1, 0, none⟩), .pointer (some ⟨G + 1 + 2, 0, none⟩), .pointer (some ⟨G + 1, 0, none⟩)]) rfl eg (n₀ := w.heap.size) (by omega) HHA (Below.refl _ _) (ItemsI w A n c f m G L) (fun _ _ _ => False) (ItemsI_kept w _ _ _ _ _ _ _ (by omega)) (fun _ _ _ _ _ h => h.elim) ⟨_, K0, K1, World.ownsRow_nil _ _ _ _, HB⟩
    (fun x a' W => a' = { tmps := #[qv A n c f m, .pointer (some ⟨w.heap.size, 0, none⟩), .slice none 0 0, .int .i64 0, .pointer (some ⟨G, 0, none⟩), qe x, qv A n c f m, .bool true, .bool false, qv A n c f m, .pointer (some ⟨w.heap.size, 2, none⟩), .int .i64 (m : Int), .func (.func 27) #[] #[.pointer (some ⟨G + 1 + 1, 0, none⟩), .pointer (some ⟨G + 1 + 2, 0, none⟩), .pointer (some ⟨G + 1, 0, none⟩)], qe x, undef, undef, undef, undef, undef, undef, undef, undef, undef], defers := [] })
    (fun x a' Y l o o' hs hl ho hc => hs)
    ?assign ?body ?done ?stop
  case assign =>
    rintro l pre x W Kc hI hKc
    gi_wp2
    exact hKc _ _ (KeepsFrom.refl _ _) (KpQ.refl _ _) hI rfl
  case body =>
    rintro l9 pre x a' V' hl9 ⟨v, i1, i2, i3, i4⟩ rfl hpre
    have hmx : Try.prog.follows .mixedOrders = true := by kernel_rfl
    have hx := HX.out x (hpre.subset (by simp))
    have HLN : Hid (pre.length ≤ 64) := Lib.hid (by
      have h5 := hpre.length_le
      rw [List.length_append, List.length_singleton, HL.out] at h5
      omega)
    obtain ⟨g0, off, rfl, s0⟩ := (HM.out.later i4).row x (by rw [HM.out.len]; exact hx)
    have hd : Below V'.heap.size V' V'.drew := (Below.refl _ _).drew
    have i3' := own_later i3 hd
    have HEND : Hid (∀ (v6 : Value) (w6 : World), w6.ownsRow w.heap.size 9 1 v6 (pre.length + 1) (TQ L pre ++ [sv (L.getD x [])]) → (V'.drew.alloc (.cells #[sv (L.getD x [])] 9)).grownBy w6 v.ownBlock →
        (w6.cell? ⟨G, 0, none⟩ = some v ∧ w6.frozen? ⟨G, 0, none⟩ = false) ∧ (KeepsFrom W0.heap.size V' (w6.setCell ⟨G, 0, none⟩ v6) ∧ KpQ w.heap.size V' (w6.setCell ⟨G, 0, none⟩ v6) ∧ ItemsI w (some ⟨g0, off, none⟩) n c f m G L (pre ++ [x]) (w6.setCell ⟨G, 0, none⟩ v6))) := Lib.hid (fun v6 w6 g1 g2 => by
      obtain ⟨e1, e2, e3, e4⟩ := ItemsI_more (V := V'.drew) rfl i1 i2 i3' i4.drew hz g1 g2
      exact ⟨e1, ⟨e2.1, fun k o hB hk hc => e2.2 k o (by omega) hk hc⟩, (KpQ.of_below hd i4.size).trans e3, e4⟩)
    have HO := Lib.hid (own_later i3' (ba (Below.refl V'.drew.heap.size V'.drew) (.cells #[sv (L.getD x [])] 9)))
    have HN := Lib.hid (World.news_of_block (heap_alloc_new V'.drew (.cells #[sv (L.getD x [])] 9)))
    obtain ⟨⟨c0, _, _⟩, _⟩ := qcells (show Blk V'.drew _ _ _ from i1)
    have c1 : V'.drew.cell? ⟨G, 0, none⟩ = some v := i2.cell 0
    have c2 := s0
    have d1 := cell_later (ba (Below.refl V'.drew.heap.size V'.drew) (.cells #[sv (L.getD x [])] 9)) c1
    have HSZ : Hid (w.heap.size ≤ (V'.drew.alloc (.cells #[sv (L.getD x [])] 9)).heap.size) := Lib.hid (Nat.le_trans i4.size (ba (Below.refl V'.drew.heap.size V'.drew) (.cells #[sv (L.getD x [])] 9)).size)
    have d2 : (V'.alloc (.cells #[sv (L.getD x [])] 9)).cell? ⟨G, 0, none⟩ = some v := cell_later (ba (Below.refl V'.heap.size V') _) (i2.cell 0)
    have x0 : (x : Int) < (n : Int) := by omega
    have x1 : (0 : Int) ≤ (x : Int) := by omega
    generalize L.getD x [] = t at *
    clear i1 i2 i3 i3' i4 hpre K0 K1 HB s0 hd
    gi_wp2
    refine wpIn_region_any (by assumption) ?_
    change wpAnyIn _ _ _ _ _ _ _ _ _ (World.drew _)
    refine wpAnyIn_ready (rs := [0, 1, 3]) (by kernel_rfl) (by simp) ?_
    refine AllReadyIn.cons (o := ⟨some 14, _, _, _, _, _⟩) rfl (fun K9 hK9 => ?_) ?_
    · skip
      go_simp
      refine hK9 _ _ ?_
      clear hK9 K9
      try simp only [Act.put, List.setIfInBounds_toArray, List.set_cons_zero, List.set_cons_succ]
      refine wpAnyIn_ready (rs := [1, 3]) (by kernel_rfl) (by simp) ?_
      refine AllReadyIn.cons (o := ⟨some 15, _, _, _, _, _⟩) rfl (fun K9 hK9 => ?_) ?_
      · skip
        go_simp
        refine hK9 _ _ ?_
        clear hK9 K9
        try simp only [Act.put, List.setIfInBounds_toArray, List.set_cons_zero, List.set_cons_succ]
        refine wpAnyIn_ready (rs := [2, 3]) (by kernel_rfl) (by simp) ?_
        refine AllReadyIn.cons (o := ⟨some 16, _, _, _, _, _⟩) rfl (fun K9 hK9 => ?_) ?_
        · skip
          go_simp
          refine hK9 _ _ ?_
          clear hK9 K9
          try simp only [Act.put, List.setIfInBounds_toArray, List.set_cons_zero, List.set_cons_succ]
          refine wpAnyIn_ready (rs := [3]) (by kernel_rfl) (by simp) ?_
          refine AllReadyIn.cons (o := ⟨some 17, _, _, _, _, _⟩) rfl (fun K9 hK9 => ?_) AllReadyIn.nil
          go_simp
          refine hK9 _ _ ?_
          clear hK9 K9
          try simp only [Act.put, List.setIfInBounds_toArray, List.set_cons_zero, List.set_cons_succ]
          refine wpAnyIn_ready (rs := [4]) (by kernel_rfl) (by simp) ?_
          refine AllReadyIn.cons (o := ⟨some 18, _, _, _, _, _⟩) rfl (fun K9 hK9 => ?_) AllReadyIn.nil
          go_simp
          refine hK9 _ _ ?_
          clear hK9 K9
          try simp only [Act.put, List.setIfInBounds_toArray, List.set_cons_zero, List.set_cons_succ]
          refine wpAnyIn_ready (rs := [5]) (by kernel_rfl) (by simp) ?_
          refine AllReadyIn.cons (o := ⟨some 19, _, _, _, _, _⟩) rfl (fun K9 hK9 => ?_) AllReadyIn.nil
          go_simp
          refine hK9 _ _ ?_
          clear hK9 K9
          try simp only [Act.put, List.setIfInBounds_toArray, List.set_cons_zero, List.set_cons_succ]
          refine wpAnyIn_ready (rs := [6]) (by kernel_rfl) (by simp) ?_
          refine AllReadyIn.cons (o := ⟨some 20, _, _, _, _, _⟩) rfl (fun K9 hK9 => ?_) AllReadyIn.nil
          go_simp
          refine hK9 _ _ ?_
          clear hK9 K9
          try simp only [Act.put, List.setIfInBounds_toArray, List.set_cons_zero, List.set_cons_succ]
          refine wpAnyIn_ready (rs := [7]) (by kernel_rfl) (by simp) ?_
          refine AllReadyIn.cons (o := ⟨some 21, _, _, _, _, _⟩) rfl (fun K9 hK9 => ?_) AllReadyIn.nil
          refine stepIn_append (by kernel_rfl) _ _ 22 rfl w.heap.size 9 i0 (.string ⟨#[]⟩) 1 16 Try.underlying22 hi0 hz0 hz1 hz2 rfl (by decide) v pre.length (TQ L pre) (by rfl) HO.out ⟨V'.drew.heap.size, 0, none⟩ 1 1 [sv t] (by rfl) rfl HN.out (by simp [Value.oneCell']) (by unfold maxLen; have := HLN.out; omega) (by have := HLN.out; omega) (HSZ.out) ?_
          intro v6 w6 hown6 hgr6 _
          obtain ⟨g6, d6, rfl⟩ := ownsRow_succ hown6
          have HE6 := Lib.hid (HEND.out _ w6 hown6 hgr6)
          have c6 := HE6.out.1.1
          have f6 := HE6.out.1.2
          clear hown6 hgr6
          refine hK9 _ _ ?_
          clear hK9 K9
          try simp only [Act.put, List.setIfInBounds_toArray, List.set_cons_zero, List.set_cons_succ]
          refine wpAnyIn_ready (rs := [8]) (by kernel_rfl) (by simp) ?_
          refine AllReadyIn.cons (o := ⟨none, _, _, _, _, _⟩) rfl (fun K9 hK9 => ?_) AllReadyIn.nil
          go_simp
          refine hK9 _ _ ?_
          clear hK9 K9
          try simp only [Act.put]
          refine wpAnyIn_done (by kernel_rfl) ?_ _
          exact HE6.out.2
        refine AllReadyIn.cons (o := ⟨some 17, _, _, _, _, _⟩) rfl (fun K9 hK9 => ?_) AllReadyIn.nil
        go_simp
        refine hK9 _ _ ?_
        clear hK9 K9
        try simp only [Act.put, List.setIfInBounds_toArray, List.set_cons_zero, List.set_cons_succ]
        refine wpAnyIn_ready (rs := [2]) (by kernel_rfl) (by simp) ?_
        refine AllReadyIn.cons (o := ⟨some 16, _, _, _, _, _⟩) rfl (fun K9 hK9 => ?_) AllReadyIn.nil
        go_simp
        refine hK9 _ _ ?_
        clear hK9 K9
        try simp only [Act.put, List.setIfInBounds_toArray, List.set_cons_zero, List.set_cons_succ]
        refine wpAnyIn_ready (rs := [4]) (by kernel_rfl) (by simp) ?_
        refine AllReadyIn.cons (o := ⟨some 18, _, _, _, _, _⟩) rfl (fun K9 hK9 => ?_) AllReadyIn.nil
        go_simp
        refine hK9 _ _ ?_
        clear hK9 K9
        try simp only [Act.put, List.setIfInBounds_toArray, List.set_cons_zero, List.set_cons_succ]
        refine wpAnyIn_ready (rs := [5]) (by kernel_rfl) (by simp) ?_
        refine AllReadyIn.cons (o := ⟨some 19, _, _, _, _, _⟩) rfl (fun K9 hK9 => ?_) AllReadyIn.nil
        go_simp
        refine hK9 _ _ ?_
        clear hK9 K9
        try simp only [Act.put, List.setIfInBounds_toArray, List.set_cons_zero, List.set_cons_succ]
        refine wpAnyIn_ready (rs := [6]) (by kernel_rfl) (by simp) ?_
        refine AllReadyIn.cons (o := ⟨some 20, _, _, _, _, _⟩) rfl (fun K9 hK9 => ?_) AllReadyIn.nil
        go_simp
        refine hK9 _ _ ?_
        clear hK9 K9
        try simp only [Act.put, List.setIfInBounds_toArray, List.set_cons_zero, List.set_cons_succ]
        refine wpAnyIn_ready (rs := [7]) (by kernel_rfl) (by simp) ?_
        refine AllReadyIn.cons (o := ⟨some 21, _, _, _, _, _⟩) rfl (fun K9 hK9 => ?_) AllReadyIn.nil
        refine stepIn_append (by kernel_rfl) _ _ 22 rfl w.heap.size 9 i0 (.string ⟨#[]⟩) 1 16 Try.underlying22 hi0 hz0 hz1 hz2 rfl (by decide) v pre.length (TQ L pre) (by rfl) HO.out ⟨V'.drew.heap.size, 0, none⟩ 1 1 [sv t] (by rfl) rfl HN.out (by simp [Value.oneCell']) (by unfold maxLen; have := HLN.out; omega) (by have := HLN.out; omega) (HSZ.out) ?_
        intro v6 w6 hown6 hgr6 _
        obtain ⟨g6, d6, rfl⟩ := ownsRow_succ hown6
        have HE6 := Lib.hid (HEND.out _ w6 hown6 hgr6)
        have c6 := HE6.out.1.1
        have f6 := HE6.out.1.2
        clear hown6 hgr6
        refine hK9 _ _ ?_
        clear hK9 K9
        try simp only [Act.put, List.setIfInBounds_toArray, List.set_cons_zero, List.set_cons_succ]
        refine wpAnyIn_ready (rs := [8]) (by kernel_rfl) (by simp) ?_
        refine AllReadyIn.cons (o := ⟨none, _, _, _, _, _⟩) rfl (fun K9 hK9 => ?_) AllReadyIn.nil
        go_simp
        refine hK9 _ _ ?_
        clear hK9 K9
        try simp only [Act.put]
        refine wpAnyIn_done (by kernel_rfl) ?_ _
        exact HE6.out.2
      refine AllReadyIn.cons (o := ⟨some 17, _, _, _, _, _⟩) rfl (fun K9 hK9 => ?_) AllReadyIn.nil
      go_simp
      refine hK9 _ _ ?_
      clear hK9 K9
      try simp only [Act.put, List.setIfInBounds_toArray, List.set_cons_zero, List.set_cons_succ]
      refine wpAnyIn_ready (rs := [1]) (by kernel_rfl) (by simp) ?_
      refine AllReadyIn.cons (o := ⟨some 15, _, _, _, _, _⟩) rfl (fun K9 hK9 => ?_) AllReadyIn.nil
      go_simp
      refine hK9 _ _ ?_
      clear hK9 K9
      try simp only [Act.put, List.setIfInBounds_toArray, List.set_cons_zero, List.set_cons_succ]
      refine wpAnyIn_ready (rs := [2]) (by kernel_rfl) (by simp) ?_
      refine AllReadyIn.cons (o := ⟨some 16, _, _, _, _, _⟩) rfl (fun K9 hK9 => ?_) AllReadyIn.nil
      go_simp
      refine hK9 _ _ ?_
      clear hK9 K9
      try simp only [Act.put, List.setIfInBounds_toArray, List.set_cons_zero, List.set_cons_succ]
      refine wpAnyIn_ready (rs := [4]) (by kernel_rfl) (by simp) ?_
      refine AllReadyIn.cons (o := ⟨some 18, _, _, _, _, _⟩) rfl (fun K9 hK9 => ?_) AllReadyIn.nil
      go_simp
      refine hK9 _ _ ?_
      clear hK9 K9
      try simp only [Act.put, List.setIfInBounds_toArray, List.set_cons_zero, List.set_cons_succ]
      refine wpAnyIn_ready (rs := [5]) (by kernel_rfl) (by simp) ?_
      refine AllReadyIn.cons (o := ⟨some 19, _, _, _, _, _⟩) rfl (fun K9 hK9 => ?_) AllReadyIn.nil
      go_simp
      refine hK9 _ _ ?_
      clear hK9 K9
      try simp only [Act.put, List.setIfInBounds_toArray, List.set_cons_zero, List.set_cons_succ]
      refine wpAnyIn_ready (rs := [6]) (by kernel_rfl) (by simp) ?_
      refine AllReadyIn.cons (o := ⟨some 20, _, _, _, _, _⟩) rfl (fun K9 hK9 => ?_) AllReadyIn.nil
      go_simp
      refine hK9 _ _ ?_
      clear hK9 K9
      try simp only [Act.put, List.setIfInBounds_toArray, List.set_cons_zero, List.set_cons_succ]
      refine wpAnyIn_ready (rs := [7]) (by kernel_rfl) (by simp) ?_
      refine AllReadyIn.cons (o := ⟨some 21, _, _, _, _, _⟩) rfl (fun K9 hK9 => ?_) AllReadyIn.nil
      refine stepIn_append (by kernel_rfl) _ _ 22 rfl w.heap.size 9 i0 (.string ⟨#[]⟩) 1 16 Try.underlying22 hi0 hz0 hz1 hz2 rfl (by decide) v pre.length (TQ L pre) (by rfl) HO.out ⟨V'.drew.heap.size, 0, none⟩ 1 1 [sv t] (by rfl) rfl HN.out (by simp [Value.oneCell']) (by unfold maxLen; have := HLN.out; omega) (by have := HLN.out; omega) (HSZ.out) ?_
      intro v6 w6 hown6 hgr6 _
      obtain ⟨g6, d6, rfl⟩ := ownsRow_succ hown6
      have HE6 := Lib.hid (HEND.out _ w6 hown6 hgr6)
      have c6 := HE6.out.1.1
      have f6 := HE6.out.1.2
      clear hown6 hgr6
      refine hK9 _ _ ?_
      clear hK9 K9
      try simp only [Act.put, List.setIfInBounds_toArray, List.set_cons_zero, List.set_cons_succ]
      refine wpAnyIn_ready (rs := [8]) (by kernel_rfl) (by simp) ?_
      refine AllReadyIn.cons (o := ⟨none, _, _, _, _, _⟩) rfl (fun K9 hK9 => ?_) AllReadyIn.nil
      go_simp
      refine hK9 _ _ ?_
      clear hK9 K9
      try simp only [Act.put]
      refine wpAnyIn_done (by kernel_rfl) ?_ _
      exact HE6.out.2
    refine AllReadyIn.cons (o := ⟨some 15, _, _, _, _, _⟩) rfl (fun K9 hK9 => ?_) ?_
    · skip
      go_simp
      refine hK9 _ _ ?_
      clear hK9 K9
      try simp only [Act.put, List.setIfInBounds_toArray, List.set_cons_zero, List.set_cons_succ]
      refine wpAnyIn_ready (rs := [0, 2, 3]) (by kernel_rfl) (by simp) ?_
      refine AllReadyIn.cons (o := ⟨some 14, _, _, _, _, _⟩) rfl (fun K9 hK9 => ?_) ?_
      · skip
        go_simp
        refine hK9 _ _ ?_
        clear hK9 K9
        try simp only [Act.put, List.setIfInBounds_toArray, List.set_cons_zero, List.set_cons_succ]
        refine wpAnyIn_ready (rs := [2, 3]) (by kernel_rfl) (by simp) ?_
        refine AllReadyIn.cons (o := ⟨some 16, _, _, _, _, _⟩) rfl (fun K9 hK9 => ?_) ?_
        · skip
          go_simp
          refine hK9 _ _ ?_
          clear hK9 K9
          try simp only [Act.put, List.setIfInBounds_toArray, List.set_cons_zero, List.set_cons_succ]
          refine wpAnyIn_ready (rs := [3]) (by kernel_rfl) (by simp) ?_
          refine AllReadyIn.cons (o := ⟨some 17, _, _, _, _, _⟩) rfl (fun K9 hK9 => ?_) AllReadyIn.nil
          go_simp
          refine hK9 _ _ ?_
          clear hK9 K9
          try simp only [Act.put, List.setIfInBounds_toArray, List.set_cons_zero, List.set_cons_succ]
          refine wpAnyIn_ready (rs := [4]) (by kernel_rfl) (by simp) ?_
          refine AllReadyIn.cons (o := ⟨some 18, _, _, _, _, _⟩) rfl (fun K9 hK9 => ?_) AllReadyIn.nil
          go_simp
          refine hK9 _ _ ?_
          clear hK9 K9
          try simp only [Act.put, List.setIfInBounds_toArray, List.set_cons_zero, List.set_cons_succ]
          refine wpAnyIn_ready (rs := [5]) (by kernel_rfl) (by simp) ?_
          refine AllReadyIn.cons (o := ⟨some 19, _, _, _, _, _⟩) rfl (fun K9 hK9 => ?_) AllReadyIn.nil
          go_simp
          refine hK9 _ _ ?_
          clear hK9 K9
          try simp only [Act.put, List.setIfInBounds_toArray, List.set_cons_zero, List.set_cons_succ]
          refine wpAnyIn_ready (rs := [6]) (by kernel_rfl) (by simp) ?_
          refine AllReadyIn.cons (o := ⟨some 20, _, _, _, _, _⟩) rfl (fun K9 hK9 => ?_) AllReadyIn.nil
          go_simp
          refine hK9 _ _ ?_
          clear hK9 K9
          try simp only [Act.put, List.setIfInBounds_toArray, List.set_cons_zero, List.set_cons_succ]
          refine wpAnyIn_ready (rs := [7]) (by kernel_rfl) (by simp) ?_
          refine AllReadyIn.cons (o := ⟨some 21, _, _, _, _, _⟩) rfl (fun K9 hK9 => ?_) AllReadyIn.nil
          refine stepIn_append (by kernel_rfl) _ _ 22 rfl w.heap.size 9 i0 (.string ⟨#[]⟩) 1 16 Try.underlying22 hi0 hz0 hz1 hz2 rfl (by decide) v pre.length (TQ L pre) (by rfl) HO.out ⟨V'.drew.heap.size, 0, none⟩ 1 1 [sv t] (by rfl) rfl HN.out (by simp [Value.oneCell']) (by unfold maxLen; have := HLN.out; omega) (by have := HLN.out; omega) (HSZ.out) ?_
          intro v6 w6 hown6 hgr6 _
          obtain ⟨g6, d6, rfl⟩ := ownsRow_succ hown6
          have HE6 := Lib.hid (HEND.out _ w6 hown6 hgr6)
          have c6 := HE6.out.1.1
          have f6 := HE6.out.1.2
          clear hown6 hgr6
          refine hK9 _ _ ?_
          clear hK9 K9
          try simp only [Act.put, List.setIfInBounds_toArray, List.set_cons_zero, List.set_cons_succ]
          refine wpAnyIn_ready (rs := [8]) (by kernel_rfl) (by simp) ?_
          refine AllReadyIn.cons (o := ⟨none, _, _, _, _, _⟩) rfl (fun K9 hK9 => ?_) AllReadyIn.nil
          go_simp
          refine hK9 _ _ ?_
          clear hK9 K9
          try simp only [Act.put]
          refine wpAnyIn_done (by kernel_rfl) ?_ _
          exact HE6.out.2
        refine AllReadyIn.cons (o := ⟨some 17, _, _, _, _, _⟩) rfl (fun K9 hK9 => ?_) AllReadyIn.nil
        go_simp
        refine hK9 _ _ ?_
        clear hK9 K9
        try simp only [Act.put, List.setIfInBounds_toArray, List.set_cons_zero, List.set_cons_succ]
        refine wpAnyIn_ready (rs := [2]) (by kernel_rfl) (by simp) ?_
        refine AllReadyIn.cons (o := ⟨some 16, _, _, _, _, _⟩) rfl (fun K9 hK9 => ?_) AllReadyIn.nil
        go_simp
        refine hK9 _ _ ?_
        clear hK9 K9
        try simp only [Act.put, List.setIfInBounds_toArray, List.set_cons_zero, List.set_cons_succ]
        refine wpAnyIn_ready (rs := [4]) (by kernel_rfl) (by simp) ?_
        refine AllReadyIn.cons (o := ⟨some 18, _, _, _, _, _⟩) rfl (fun K9 hK9 => ?_) AllReadyIn.nil
        go_simp
        refine hK9 _ _ ?_
        clear hK9 K9
        try simp only [Act.put, List.setIfInBounds_toArray, List.set_cons_zero, List.set_cons_succ]
        refine wpAnyIn_ready (rs := [5]) (by kernel_rfl) (by simp) ?_
        refine AllReadyIn.cons (o := ⟨some 19, _, _, _, _, _⟩) rfl (fun K9 hK9 => ?_) AllReadyIn.nil
        go_simp
        refine hK9 _ _ ?_
        clear hK9 K9
        try simp only [Act.put, List.setIfInBounds_toArray, List.set_cons_zero, List.set_cons_succ]
        refine wpAnyIn_ready (rs := [6]) (by kernel_rfl) (by simp) ?_
        refine AllReadyIn.cons (o := ⟨some 20, _, _, _, _, _⟩) rfl (fun K9 hK9 => ?_) AllReadyIn.nil
        go_simp
        refine hK9 _ _ ?_
        clear hK9 K9
        try simp only [Act.put, List.setIfInBounds_toArray, List.set_cons_zero, List.set_cons_succ]
        refine wpAnyIn_ready (rs := [7]) (by kernel_rfl) (by simp) ?_
        refine AllReadyIn.cons (o := ⟨some 21, _, _, _, _, _⟩) rfl (fun K9 hK9 => ?_) AllReadyIn.nil
        refine stepIn_append (by kernel_rfl) _ _ 22 rfl w.heap.size 9 i0 (.string ⟨#[]⟩) 1 16 Try.underlying22 hi0 hz0 hz1 hz2 rfl (by decide) v pre.length (TQ L pre) (by rfl) HO.out ⟨V'.drew.heap.size, 0, none⟩ 1 1 [sv t] (by rfl) rfl HN.out (by simp [Value.oneCell']) (by unfold maxLen; have := HLN.out; omega) (by have := HLN.out; omega) (HSZ.out) ?_
        intro v6 w6 hown6 hgr6 _
        obtain ⟨g6, d6, rfl⟩ := ownsRow_succ hown6
        have HE6 := Lib.hid (HEND.out _ w6 hown6 hgr6)
        have c6 := HE6.out.1.1
        have f6 := HE6.out.1.2
        clear hown6 hgr6
        refine hK9 _ _ ?_
        clear hK9 K9
        try simp only [Act.put, List.setIfInBounds_toArray, List.set_cons_zero, List.set_cons_succ]
        refine wpAnyIn_ready (rs := [8]) (by kernel_rfl) (by simp) ?_
        refine AllReadyIn.cons (o := ⟨none, _, _, _, _, _⟩) rfl (fun K9 hK9 => ?_) AllReadyIn.nil
        go_simp
        refine hK9 _ _ ?_
        clear hK9 K9
        try simp only [Act.put]
        refine wpAnyIn_done (by kernel_rfl) ?_ _
        exact HE6.out.2
      refine AllReadyIn.cons (o := ⟨some 16, _, _, _, _, _⟩) rfl (fun K9 hK9 => ?_) ?_
      · skip
        go_simp
        refine hK9 _ _ ?_
        clear hK9 K9
        try simp only [Act.put, List.setIfInBounds_toArray, List.set_cons_zero, List.set_cons_succ]
        refine wpAnyIn_ready (rs := [0, 3]) (by kernel_rfl) (by simp) ?_
        refine AllReadyIn.cons (o := ⟨some 14, _, _, _, _, _⟩) rfl (fun K9 hK9 => ?_) ?_
        · skip
          go_simp
          refine hK9 _ _ ?_
          clear hK9 K9
          try simp only [Act.put, List.setIfInBounds_toArray, List.set_cons_zero, List.set_cons_succ]
          refine wpAnyIn_ready (rs := [3]) (by kernel_rfl) (by simp) ?_
          refine AllReadyIn.cons (o := ⟨some 17, _, _, _, _, _⟩) rfl (fun K9 hK9 => ?_) AllReadyIn.nil
          go_simp
          refine hK9 _ _ ?_
          clear hK9 K9
          try simp only [Act.put, List.setIfInBounds_toArray, List.set_cons_zero, List.set_cons_succ]
          refine wpAnyIn_ready (rs := [4]) (by kernel_rfl) (by simp) ?_
          refine AllReadyIn.cons (o := ⟨some 18, _, _, _, _, _⟩) rfl (fun K9 hK9 => ?_) AllReadyIn.nil
          go_simp
          refine hK9 _ _ ?_
          clear hK9 K9
          try simp only [Act.put, List.setIfInBounds_toArray, List.set_cons_zero, List.set_cons_succ]
          refine wpAnyIn_ready (rs := [5]) (by kernel_rfl) (by simp) ?_
          refine AllReadyIn.cons (o := ⟨some 19, _, _, _, _, _⟩) rfl (fun K9 hK9 => ?_) AllReadyIn.nil
          go_simp
          refine hK9 _ _ ?_
          clear hK9 K9
          try simp only [Act.put, List.setIfInBounds_toArray, List.set_cons_zero, List.set_cons_succ]
          refine wpAnyIn_ready (rs := [6]) (by kernel_rfl) (by simp) ?_
          refine AllReadyIn.cons (o := ⟨some 20, _, _, _, _, _⟩) rfl (fun K9 hK9 => ?_) AllReadyIn.nil
          go_simp
          refine hK9 _ _ ?_
          clear hK9 K9
          try simp only [Act.put, List.setIfInBounds_toArray, List.set_cons_zero, List.set_cons_succ]
          refine wpAnyIn_ready (rs := [7]) (by kernel_rfl) (by simp) ?_
          refine AllReadyIn.cons (o := ⟨some 21, _, _, _, _, _⟩) rfl (fun K9 hK9 => ?_) AllReadyIn.nil
          refine stepIn_append (by kernel_rfl) _ _ 22 rfl w.heap.size 9 i0 (.string ⟨#[]⟩) 1 16 Try.underlying22 hi0 hz0 hz1 hz2 rfl (by decide) v pre.length (TQ L pre) (by rfl) HO.out ⟨V'.drew.heap.size, 0, none⟩ 1 1 [sv t] (by rfl) rfl HN.out (by simp [Value.oneCell']) (by unfold maxLen; have := HLN.out; omega) (by have := HLN.out; omega) (HSZ.out) ?_
          intro v6 w6 hown6 hgr6 _
          obtain ⟨g6, d6, rfl⟩ := ownsRow_succ hown6
          have HE6 := Lib.hid (HEND.out _ w6 hown6 hgr6)
          have c6 := HE6.out.1.1
          have f6 := HE6.out.1.2
          clear hown6 hgr6
          refine hK9 _ _ ?_
          clear hK9 K9
          try simp only [Act.put, List.setIfInBounds_toArray, List.set_cons_zero, List.set_cons_succ]
          refine wpAnyIn_ready (rs := [8]) (by kernel_rfl) (by simp) ?_
          refine AllReadyIn.cons (o := ⟨none, _, _, _, _, _⟩) rfl (fun K9 hK9 => ?_) AllReadyIn.nil
          go_simp
          refine hK9 _ _ ?_
          clear hK9 K9
          try simp only [Act.put]
          refine wpAnyIn_done (by kernel_rfl) ?_ _
          exact HE6.out.2
        refine AllReadyIn.cons (o := ⟨some 17, _, _, _, _, _⟩) rfl (fun K9 hK9 => ?_) AllReadyIn.nil
        go_simp
        refine hK9 _ _ ?_
        clear hK9 K9
        try simp only [Act.put, List.setIfInBounds_toArray, List.set_cons_zero, List.set_cons_succ]
        refine wpAnyIn_ready (rs := [0, 4]) (by kernel_rfl) (by simp) ?_
        refine AllReadyIn.cons (o := ⟨some 14, _, _, _, _, _⟩) rfl (fun K9 hK9 => ?_) ?_
        · skip
          go_simp
          refine hK9 _ _ ?_
          clear hK9 K9
          try simp only [Act.put, List.setIfInBounds_toArray, List.set_cons_zero, List.set_cons_succ]
          refine wpAnyIn_ready (rs := [4]) (by kernel_rfl) (by simp) ?_
          refine AllReadyIn.cons (o := ⟨some 18, _, _, _, _, _⟩) rfl (fun K9 hK9 => ?_) AllReadyIn.nil
          go_simp
          refine hK9 _ _ ?_
          clear hK9 K9
          try simp only [Act.put, List.setIfInBounds_toArray, List.set_cons_zero, List.set_cons_succ]
          refine wpAnyIn_ready (rs := [5]) (by kernel_rfl) (by simp) ?_
          refine AllReadyIn.cons (o := ⟨some 19, _, _, _, _, _⟩) rfl (fun K9 hK9 => ?_) AllReadyIn.nil
          go_simp
          refine hK9 _ _ ?_
          clear hK9 K9
          try simp only [Act.put, List.setIfInBounds_toArray, List.set_cons_zero, List.set_cons_succ]
          refine wpAnyIn_ready (rs := [6]) (by kernel_rfl) (by simp) ?_
          refine AllReadyIn.cons (o := ⟨some 20, _, _, _, _, _⟩) rfl (fun K9 hK9 => ?_) AllReadyIn.nil
          go_simp
          refine hK9 _ _ ?_
          clear hK9 K9
          try simp only [Act.put, List.setIfInBounds_toArray, List.set_cons_zero, List.set_cons_succ]
          refine wpAnyIn_ready (rs := [7]) (by kernel_rfl) (by simp) ?_
          refine AllReadyIn.cons (o := ⟨some 21, _, _, _, _, _⟩) rfl (fun K9 hK9 => ?_) AllReadyIn.nil
          refine stepIn_append (by kernel_rfl) _ _ 22 rfl w.heap.size 9 i0 (.string ⟨#[]⟩) 1 16 Try.underlying22 hi0 hz0 hz1 hz2 rfl (by decide) v pre.length (TQ L pre) (by rfl) HO.out ⟨V'.drew.heap.size, 0, none⟩ 1 1 [sv t] (by rfl) rfl HN.out (by simp [Value.oneCell']) (by unfold maxLen; have := HLN.out; omega) (by have := HLN.out; omega) (HSZ.out) ?_
          intro v6 w6 hown6 hgr6 _
          obtain ⟨g6, d6, rfl⟩ := ownsRow_succ hown6
          have HE6 := Lib.hid (HEND.out _ w6 hown6 hgr6)
          have c6 := HE6.out.1.1
          have f6 := HE6.out.1.2
          clear hown6 hgr6
          refine hK9 _ _ ?_
          clear hK9 K9
          try simp only [Act.put, List.setIfInBounds_toArray, List.set_cons_zero, List.set_cons_succ]
          refine wpAnyIn_ready (rs := [8]) (by kernel_rfl) (by simp) ?_
          refine AllReadyIn.cons (o := ⟨none, _, _, _, _, _⟩) rfl (fun K9 hK9 => ?_) AllReadyIn.nil
          go_simp
          refine hK9 _ _ ?_
          clear hK9 K9
          try simp only [Act.put]
          refine wpAnyIn_done (by kernel_rfl) ?_ _
          exact HE6.out.2
        refine AllReadyIn.cons (o := ⟨some 18, _, _, _, _, _⟩) rfl (fun K9 hK9 => ?_) AllReadyIn.nil
        go_simp
        refine hK9 _ _ ?_
        clear hK9 K9
        try simp only [Act.put, List.setIfInBounds_toArray, List.set_cons_zero, List.set_cons_succ]
        refine wpAnyIn_ready (rs := [0, 5]) (by kernel_rfl) (by simp) ?_
        refine AllReadyIn.cons (o := ⟨some 14, _, _, _, _, _⟩) rfl (fun K9 hK9 => ?_) ?_
        · skip
          go_simp
          refine hK9 _ _ ?_
          clear hK9 K9
          try simp only [Act.put, List.setIfInBounds_toArray, List.set_cons_zero, List.set_cons_succ]
          refine wpAnyIn_ready (rs := [5]) (by kernel_rfl) (by simp) ?_
          refine AllReadyIn.cons (o := ⟨some 19, _, _, _, _, _⟩) rfl (fun K9 hK9 => ?_) AllReadyIn.nil
          go_simp
          refine hK9 _ _ ?_
          clear hK9 K9
          try simp only [Act.put, List.setIfInBounds_toArray, List.set_cons_zero, List.set_cons_succ]
          refine wpAnyIn_ready (rs := [6]) (by kernel_rfl) (by simp) ?_
          refine AllReadyIn.cons (o := ⟨some 20, _, _, _, _, _⟩) rfl (fun K9 hK9 => ?_) AllReadyIn.nil
          go_simp
          refine hK9 _ _ ?_
          clear hK9 K9
          try simp only [Act.put, List.setIfInBounds_toArray, List.set_cons_zero, List.set_cons_succ]
          refine wpAnyIn_ready (rs := [7]) (by kernel_rfl) (by simp) ?_
          refine AllReadyIn.cons (o := ⟨some 21, _, _, _, _, _⟩) rfl (fun K9 hK9 => ?_) AllReadyIn.nil
          refine stepIn_append (by kernel_rfl) _ _ 22 rfl w.heap.size 9 i0 (.string ⟨#[]⟩) 1 16 Try.underlying22 hi0 hz0 hz1 hz2 rfl (by decide) v pre.length (TQ L pre) (by rfl) HO.out ⟨V'.drew.heap.size, 0, none⟩ 1 1 [sv t] (by rfl) rfl HN.out (by simp [Value.oneCell']) (by unfold maxLen; have := HLN.out; omega) (by have := HLN.out; omega) (HSZ.out) ?_
          intro v6 w6 hown6 hgr6 _
          obtain ⟨g6, d6, rfl⟩ := ownsRow_succ hown6
          have HE6 := Lib.hid (HEND.out _ w6 hown6 hgr6)
          have c6 := HE6.out.1.1
          have f6 := HE6.out.1.2
          clear hown6 hgr6
          refine hK9 _ _ ?_
          clear hK9 K9
          try simp only [Act.put, List.setIfInBounds_toArray, List.set_cons_zero, List.set_cons_succ]
          refine wpAnyIn_ready (rs := [8]) (by kernel_rfl) (by simp) ?_
          refine AllReadyIn.cons (o := ⟨none, _, _, _, _, _⟩) rfl (fun K9 hK9 => ?_) AllReadyIn.nil
          go_simp
          refine hK9 _ _ ?_
          clear hK9 K9
          try simp only [Act.put]
          refine wpAnyIn_done (by kernel_rfl) ?_ _
          exact HE6.out.2
        refine AllReadyIn.cons (o := ⟨some 19, _, _, _, _, _⟩) rfl (fun K9 hK9 => ?_) AllReadyIn.nil
        go_simp
        refine hK9 _ _ ?_
        clear hK9 K9
        try simp only [Act.put, List.setIfInBounds_toArray, List.set_cons_zero, List.set_cons_succ]
        refine wpAnyIn_ready (rs := [0, 6]) (by kernel_rfl) (by simp) ?_
        refine AllReadyIn.cons (o := ⟨some 14, _, _, _, _, _⟩) rfl (fun K9 hK9 => ?_) ?_
        · skip
          go_simp
          refine hK9 _ _ ?_
          clear hK9 K9
          try simp only [Act.put, List.setIfInBounds_toArray, List.set_cons_zero, List.set_cons_succ]
          refine wpAnyIn_ready (rs := [6]) (by kernel_rfl) (by simp) ?_
          refine AllReadyIn.cons (o := ⟨some 20, _, _, _, _, _⟩) rfl (fun K9 hK9 => ?_) AllReadyIn.nil
          go_simp
          refine hK9 _ _ ?_
          clear hK9 K9
          try simp only [Act.put, List.setIfInBounds_toArray, List.set_cons_zero, List.set_cons_succ]
          refine wpAnyIn_ready (rs := [7]) (by kernel_rfl) (by simp) ?_
          refine AllReadyIn.cons (o := ⟨some 21, _, _, _, _, _⟩) rfl (fun K9 hK9 => ?_) AllReadyIn.nil
          refine stepIn_append (by kernel_rfl) _ _ 22 rfl w.heap.size 9 i0 (.string ⟨#[]⟩) 1 16 Try.underlying22 hi0 hz0 hz1 hz2 rfl (by decide) v pre.length (TQ L pre) (by rfl) HO.out ⟨V'.drew.heap.size, 0, none⟩ 1 1 [sv t] (by rfl) rfl HN.out (by simp [Value.oneCell']) (by unfold maxLen; have := HLN.out; omega) (by have := HLN.out; omega) (HSZ.out) ?_
          intro v6 w6 hown6 hgr6 _
          obtain ⟨g6, d6, rfl⟩ := ownsRow_succ hown6
          have HE6 := Lib.hid (HEND.out _ w6 hown6 hgr6)
          have c6 := HE6.out.1.1
          have f6 := HE6.out.1.2
          clear hown6 hgr6
          refine hK9 _ _ ?_
          clear hK9 K9
          try simp only [Act.put, List.setIfInBounds_toArray, List.set_cons_zero, List.set_cons_succ]
          refine wpAnyIn_ready (rs := [8]) (by kernel_rfl) (by simp) ?_
          refine AllReadyIn.cons (o := ⟨none, _, _, _, _, _⟩) rfl (fun K9 hK9 => ?_) AllReadyIn.nil
          go_simp
          refine hK9 _ _ ?_
          clear hK9 K9
          try simp only [Act.put]
          refine wpAnyIn_done (by kernel_rfl) ?_ _
          exact HE6.out.2
        refine AllReadyIn.cons (o := ⟨some 20, _, _, _, _, _⟩) rfl (fun K9 hK9 => ?_) AllReadyIn.nil
        go_simp
        refine hK9 _ _ ?_
        clear hK9 K9
        try simp only [Act.put, List.setIfInBounds_toArray, List.set_cons_zero, List.set_cons_succ]
        refine wpAnyIn_ready (rs := [0]) (by kernel_rfl) (by simp) ?_
        refine AllReadyIn.cons (o := ⟨some 14, _, _, _, _, _⟩) rfl (fun K9 hK9 => ?_) AllReadyIn.nil
        go_simp
        refine hK9 _ _ ?_
        clear hK9 K9
        try simp only [Act.put, List.setIfInBounds_toArray, List.set_cons_zero, List.set_cons_succ]
        refine wpAnyIn_ready (rs := [7]) (by kernel_rfl) (by simp) ?_
        refine AllReadyIn.cons (o := ⟨some 21, _, _, _, _, _⟩) rfl (fun K9 hK9 => ?_) AllReadyIn.nil
        refine stepIn_append (by kernel_rfl) _ _ 22 rfl w.heap.size 9 i0 (.string ⟨#[]⟩) 1 16 Try.underlying22 hi0 hz0 hz1 hz2 rfl (by decide) v pre.length (TQ L pre) (by rfl) HO.out ⟨V'.drew.heap.size, 0, none⟩ 1 1 [sv t] (by rfl) rfl HN.out (by simp [Value.oneCell']) (by unfold maxLen; have := HLN.out; omega) (by have := HLN.out; omega) (HSZ.out) ?_
        intro v6 w6 hown6 hgr6 _
        obtain ⟨g6, d6, rfl⟩ := ownsRow_succ hown6
        have HE6 := Lib.hid (HEND.out _ w6 hown6 hgr6)
        have c6 := HE6.out.1.1
        have f6 := HE6.out.1.2
        clear hown6 hgr6
        refine hK9 _ _ ?_
        clear hK9 K9
        try simp only [Act.put, List.setIfInBounds_toArray, List.set_cons_zero, List.set_cons_succ]
        refine wpAnyIn_ready (rs := [8]) (by kernel_rfl) (by simp) ?_
        refine AllReadyIn.cons (o := ⟨none, _, _, _, _, _⟩) rfl (fun K9 hK9 => ?_) AllReadyIn.nil
        go_simp
        refine hK9 _ _ ?_
        clear hK9 K9
        try simp only [Act.put]
        refine wpAnyIn_done (by kernel_rfl) ?_ _
        exact HE6.out.2
      refine AllReadyIn.cons (o := ⟨some 17, _, _, _, _, _⟩) rfl (fun K9 hK9 => ?_) AllReadyIn.nil
      go_simp
      refine hK9 _ _ ?_
      clear hK9 K9
      try simp only [Act.put, List.setIfInBounds_toArray, List.set_cons_zero, List.set_cons_succ]
      refine wpAnyIn_ready (rs := [0, 2]) (by kernel_rfl) (by simp) ?_
      refine AllReadyIn.cons (o := ⟨some 14, _, _, _, _, _⟩) rfl (fun K9 hK9 => ?_) ?_
      · skip
        go_simp
        refine hK9 _ _ ?_
        clear hK9 K9
        try simp only [Act.put, List.setIfInBounds_toArray, List.set_cons_zero, List.set_cons_succ]
        refine wpAnyIn_ready (rs := [2]) (by kernel_rfl) (by simp) ?_
        refine AllReadyIn.cons (o := ⟨some 16, _, _, _, _, _⟩) rfl (fun K9 hK9 => ?_) AllReadyIn.nil
        go_simp
        refine hK9 _ _ ?_
        clear hK9 K9
        try simp only [Act.put, List.setIfInBounds_toArray, List.set_cons_zero, List.set_cons_succ]
        refine wpAnyIn_ready (rs := [4]) (by kernel_rfl) (by simp) ?_
        refine AllReadyIn.cons (o := ⟨some 18, _, _, _, _, _⟩) rfl (fun K9 hK9 => ?_) AllReadyIn.nil
        go_simp
        refine hK9 _ _ ?_
        clear hK9 K9
        try simp only [Act.put, List.setIfInBounds_toArray, List.set_cons_zero, List.set_cons_succ]
        refine wpAnyIn_ready (rs := [5]) (by kernel_rfl) (by simp) ?_
        refine AllReadyIn.cons (o := ⟨some 19, _, _, _, _, _⟩) rfl (fun K9 hK9 => ?_) AllReadyIn.nil
        go_simp
        refine hK9 _ _ ?_
        clear hK9 K9
        try simp only [Act.put, List.setIfInBounds_toArray, List.set_cons_zero, List.set_cons_succ]
        refine wpAnyIn_ready (rs := [6]) (by kernel_rfl) (by simp) ?_
        refine AllReadyIn.cons (o := ⟨some 20, _, _, _, _, _⟩) rfl (fun K9 hK9 => ?_) AllReadyIn.nil
        go_simp
        refine hK9 _ _ ?_
        clear hK9 K9
        try simp only [Act.put, List.setIfInBounds_toArray, List.set_cons_zero, List.set_cons_succ]
        refine wpAnyIn_ready (rs := [7]) (by kernel_rfl) (by simp) ?_
        refine AllReadyIn.cons (o := ⟨some 21, _, _, _, _, _⟩) rfl (fun K9 hK9 => ?_) AllReadyIn.nil
        refine stepIn_append (by kernel_rfl) _ _ 22 rfl w.heap.size 9 i0 (.string ⟨#[]⟩) 1 16 Try.underlying22 hi0 hz0 hz1 hz2 rfl (by decide) v pre.length (TQ L pre) (by rfl) HO.out ⟨V'.drew.heap.size, 0, none⟩ 1 1 [sv t] (by rfl) rfl HN.out (by simp [Value.oneCell']) (by unfold maxLen; have := HLN.out; omega) (by have := HLN.out; omega) (HSZ.out) ?_
        intro v6 w6 hown6 hgr6 _
        obtain ⟨g6, d6, rfl⟩ := ownsRow_succ hown6
        have HE6 := Lib.hid (HEND.out _ w6 hown6 hgr6)
        have c6 := HE6.out.1.1
        have f6 := HE6.out.1.2
        clear hown6 hgr6
        refine hK9 _ _ ?_
        clear hK9 K9
        try simp only [Act.put, List.setIfInBounds_toArray, List.set_cons_zero, List.set_cons_succ]
        refine wpAnyIn_ready (rs := [8]) (by kernel_rfl) (by simp) ?_
        refine AllReadyIn.cons (o := ⟨none, _, _, _, _, _⟩) rfl (fun K9 hK9 => ?_) AllReadyIn.nil
        go_simp
        refine hK9 _ _ ?_
        clear hK9 K9
        try simp only [Act.put]
        refine wpAnyIn_done (by kernel_rfl) ?_ _
        exact HE6.out.2
      refine AllReadyIn.cons (o := ⟨some 16, _, _, _, _, _⟩) rfl (fun K9 hK9 => ?_) AllReadyIn.nil
      go_simp
      refine hK9 _ _ ?_
      clear hK9 K9
      try simp only [Act.put, List.setIfInBounds_toArray, List.set_cons_zero, List.set_cons_succ]
      refine wpAnyIn_ready (rs := [0, 4]) (by kernel_rfl) (by simp) ?_
      refine AllReadyIn.cons (o := ⟨some 14, _, _, _, _, _⟩) rfl (fun K9 hK9 => ?_) ?_
      · skip
        go_simp
        refine hK9 _ _ ?_
        clear hK9 K9
        try simp only [Act.put, List.setIfInBounds_toArray, List.set_cons_zero, List.set_cons_succ]
        refine wpAnyIn_ready (rs := [4]) (by kernel_rfl) (by simp) ?_
        refine AllReadyIn.cons (o := ⟨some 18, _, _, _, _, _⟩) rfl (fun K9 hK9 => ?_) AllReadyIn.nil
        go_simp
        refine hK9 _ _ ?_
        clear hK9 K9
        try simp only [Act.put, List.setIfInBounds_toArray, List.set_cons_zero, List.set_cons_succ]
        refine wpAnyIn_ready (rs := [5]) (by kernel_rfl) (by simp) ?_
        refine AllReadyIn.cons (o := ⟨some 19, _, _, _, _, _⟩) rfl (fun K9 hK9 => ?_) AllReadyIn.nil
        go_simp
        refine hK9 _ _ ?_
        clear hK9 K9
        try simp only [Act.put, List.setIfInBounds_toArray, List.set_cons_zero, List.set_cons_succ]
        refine wpAnyIn_ready (rs := [6]) (by kernel_rfl) (by simp) ?_
        refine AllReadyIn.cons (o := ⟨some 20, _, _, _, _, _⟩) rfl (fun K9 hK9 => ?_) AllReadyIn.nil
        go_simp
        refine hK9 _ _ ?_
        clear hK9 K9
        try simp only [Act.put, List.setIfInBounds_toArray, List.set_cons_zero, List.set_cons_succ]
        refine wpAnyIn_ready (rs := [7]) (by kernel_rfl) (by simp) ?_
        refine AllReadyIn.cons (o := ⟨some 21, _, _, _, _, _⟩) rfl (fun K9 hK9 => ?_) AllReadyIn.nil
        refine stepIn_append (by kernel_rfl) _ _ 22 rfl w.heap.size 9 i0 (.string ⟨#[]⟩) 1 16 Try.underlying22 hi0 hz0 hz1 hz2 rfl (by decide) v pre.length (TQ L pre) (by rfl) HO.out ⟨V'.drew.heap.size, 0, none⟩ 1 1 [sv t] (by rfl) rfl HN.out (by simp [Value.oneCell']) (by unfold maxLen; have := HLN.out; omega) (by have := HLN.out; omega) (HSZ.out) ?_
        intro v6 w6 hown6 hgr6 _
        obtain ⟨g6, d6, rfl⟩ := ownsRow_succ hown6
        have HE6 := Lib.hid (HEND.out _ w6 hown6 hgr6)
        have c6 := HE6.out.1.1
        have f6 := HE6.out.1.2
        clear hown6 hgr6
        refine hK9 _ _ ?_
        clear hK9 K9
        try simp only [Act.put, List.setIfInBounds_toArray, List.set_cons_zero, List.set_cons_succ]
        refine wpAnyIn_ready (rs := [8]) (by kernel_rfl) (by simp) ?_
        refine AllReadyIn.cons (o := ⟨none, _, _, _, _, _⟩) rfl (fun K9 hK9 => ?_) AllReadyIn.nil
        go_simp
        refine hK9 _ _ ?_
        clear hK9 K9
        try simp only [Act.put]
        refine wpAnyIn_done (by kernel_rfl) ?_ _
        exact HE6.out.2
      refine AllReadyIn.cons (o := ⟨some 18, _, _, _, _, _⟩) rfl (fun K9 hK9 => ?_) AllReadyIn.nil
      go_simp
      refine hK9 _ _ ?_
      clear hK9 K9
      try simp only [Act.put, List.setIfInBounds_toArray, List.set_cons_zero, List.set_cons_succ]
      refine wpAnyIn_ready (rs := [0, 5]) (by kernel_rfl) (by simp) ?_
      refine AllReadyIn.cons (o := ⟨some 14, _, _, _, _, _⟩) rfl (fun K9 hK9 => ?_) ?_
      · skip
        go_simp
        refine hK9 _ _ ?_
        clear hK9 K9
        try simp only [Act.put, List.setIfInBounds_toArray, List.set_cons_zero, List.set_cons_succ]
        refine wpAnyIn_ready (rs := [5]) (by kernel_rfl) (by simp) ?_
        refine AllReadyIn.cons (o := ⟨some 19, _, _, _, _, _⟩) rfl (fun K9 hK9 => ?_) AllReadyIn.nil
        go_simp
        refine hK9 _ _ ?_
        clear hK9 K9
        try simp only [Act.put, List.setIfInBounds_toArray, List.set_cons_zero, List.set_cons_succ]
        refine wpAnyIn_ready (rs := [6]) (by kernel_rfl) (by simp) ?_
        refine AllReadyIn.cons (o := ⟨some 20, _, _, _, _, _⟩) rfl (fun K9 hK9 => ?_) AllReadyIn.nil
        go_simp
        refine hK9 _ _ ?_
        clear hK9 K9
        try simp only [Act.put, List.setIfInBounds_toArray, List.set_cons_zero, List.set_cons_succ]
        refine wpAnyIn_ready (rs := [7]) (by kernel_rfl) (by simp) ?_
        refine AllReadyIn.cons (o := ⟨some 21, _, _, _, _, _⟩) rfl (fun K9 hK9 => ?_) AllReadyIn.nil
        refine stepIn_append (by kernel_rfl) _ _ 22 rfl w.heap.size 9 i0 (.string ⟨#[]⟩) 1 16 Try.underlying22 hi0 hz0 hz1 hz2 rfl (by decide) v pre.length (TQ L pre) (by rfl) HO.out ⟨V'.drew.heap.size, 0, none⟩ 1 1 [sv t] (by rfl) rfl HN.out (by simp [Value.oneCell']) (by unfold maxLen; have := HLN.out; omega) (by have := HLN.out; omega) (HSZ.out) ?_
        intro v6 w6 hown6 hgr6 _
        obtain ⟨g6, d6, rfl⟩ := ownsRow_succ hown6
        have HE6 := Lib.hid (HEND.out _ w6 hown6 hgr6)
        have c6 := HE6.out.1.1
        have f6 := HE6.out.1.2
        clear hown6 hgr6
        refine hK9 _ _ ?_
        clear hK9 K9
        try simp only [Act.put, List.setIfInBounds_toArray, List.set_cons_zero, List.set_cons_succ]
        refine wpAnyIn_ready (rs := [8]) (by kernel_rfl) (by simp) ?_
        refine AllReadyIn.cons (o := ⟨none, _, _, _, _, _⟩) rfl (fun K9 hK9 => ?_) AllReadyIn.nil
        go_simp
        refine hK9 _ _ ?_
        clear hK9 K9
        try simp only [Act.put]
        refine wpAnyIn_done (by kernel_rfl) ?_ _
        exact HE6.out.2
      refine AllReadyIn.cons (o := ⟨some 19, _, _, _, _, _⟩) rfl (fun K9 hK9 => ?_) AllReadyIn.nil
      go_simp
      refine hK9 _ _ ?_
      clear hK9 K9
      try simp only [Act.put, List.setIfInBounds_toArray, List.set_cons_zero, List.set_cons_succ]
      refine wpAnyIn_ready (rs := [0, 6]) (by kernel_rfl) (by simp) ?_
      refine AllReadyIn.cons (o := ⟨some 14, _, _, _, _, _⟩) rfl (fun K9 hK9 => ?_) ?_
      · skip
        go_simp
        refine hK9 _ _ ?_
        clear hK9 K9
        try simp only [Act.put, List.setIfInBounds_toArray, List.set_cons_zero, List.set_cons_succ]
        refine wpAnyIn_ready (rs := [6]) (by kernel_rfl) (by simp) ?_
        refine AllReadyIn.cons (o := ⟨some 20, _, _, _, _, _⟩) rfl (fun K9 hK9 => ?_) AllReadyIn.nil
        go_simp
        refine hK9 _ _ ?_
        clear hK9 K9
        try simp only [Act.put, List.setIfInBounds_toArray, List.set_cons_zero, List.set_cons_succ]
        refine wpAnyIn_ready (rs := [7]) (by kernel_rfl) (by simp) ?_
        refine AllReadyIn.cons (o := ⟨some 21, _, _, _, _, _⟩) rfl (fun K9 hK9 => ?_) AllReadyIn.nil
        refine stepIn_append (by kernel_rfl) _ _ 22 rfl w.heap.size 9 i0 (.string ⟨#[]⟩) 1 16 Try.underlying22 hi0 hz0 hz1 hz2 rfl (by decide) v pre.length (TQ L pre) (by rfl) HO.out ⟨V'.drew.heap.size, 0, none⟩ 1 1 [sv t] (by rfl) rfl HN.out (by simp [Value.oneCell']) (by unfold maxLen; have := HLN.out; omega) (by have := HLN.out; omega) (HSZ.out) ?_
        intro v6 w6 hown6 hgr6 _
        obtain ⟨g6, d6, rfl⟩ := ownsRow_succ hown6
        have HE6 := Lib.hid (HEND.out _ w6 hown6 hgr6)
        have c6 := HE6.out.1.1
        have f6 := HE6.out.1.2
        clear hown6 hgr6
        refine hK9 _ _ ?_
        clear hK9 K9
        try simp only [Act.put, List.setIfInBounds_toArray, List.set_cons_zero, List.set_cons_succ]
        refine wpAnyIn_ready (rs := [8]) (by kernel_rfl) (by simp) ?_
        refine AllReadyIn.cons (o := ⟨none, _, _, _, _, _⟩) rfl (fun K9 hK9 => ?_) AllReadyIn.nil
        go_simp
        refine hK9 _ _ ?_
        clear hK9 K9
        try simp only [Act.put]
        refine wpAnyIn_done (by kernel_rfl) ?_ _
        exact HE6.out.2
      refine AllReadyIn.cons (o := ⟨some 20, _, _, _, _, _⟩) rfl (fun K9 hK9 => ?_) AllReadyIn.nil
      go_simp
      refine hK9 _ _ ?_
      clear hK9 K9
      try simp only [Act.put, List.setIfInBounds_toArray, List.set_cons_zero, List.set_cons_succ]
      refine wpAnyIn_ready (rs := [0]) (by kernel_rfl) (by simp) ?_
      refine AllReadyIn.cons (o := ⟨some 14, _, _, _, _, _⟩) rfl (fun K9 hK9 => ?_) AllReadyIn.nil
      go_simp
      refine hK9 _ _ ?_
      clear hK9 K9
      try simp only [Act.put, List.setIfInBounds_toArray, List.set_cons_zero, List.set_cons_succ]
      refine wpAnyIn_ready (rs := [7]) (by kernel_rfl) (by simp) ?_
      refine AllReadyIn.cons (o := ⟨some 21, _, _, _, _, _⟩) rfl (fun K9 hK9 => ?_) AllReadyIn.nil
      refine stepIn_append (by kernel_rfl) _ _ 22 rfl w.heap.size 9 i0 (.string ⟨#[]⟩) 1 16 Try.underlying22 hi0 hz0 hz1 hz2 rfl (by decide) v pre.length (TQ L pre) (by rfl) HO.out ⟨V'.drew.heap.size, 0, none⟩ 1 1 [sv t] (by rfl) rfl HN.out (by simp [Value.oneCell']) (by unfold maxLen; have := HLN.out; omega) (by have := HLN.out; omega) (HSZ.out) ?_
      intro v6 w6 hown6 hgr6 _
      obtain ⟨g6, d6, rfl⟩ := ownsRow_succ hown6
      have HE6 := Lib.hid (HEND.out _ w6 hown6 hgr6)
      have c6 := HE6.out.1.1
      have f6 := HE6.out.1.2
      clear hown6 hgr6
      refine hK9 _ _ ?_
      clear hK9 K9
      try simp only [Act.put, List.setIfInBounds_toArray, List.set_cons_zero, List.set_cons_succ]
      refine wpAnyIn_ready (rs := [8]) (by kernel_rfl) (by simp) ?_
      refine AllReadyIn.cons (o := ⟨none, _, _, _, _, _⟩) rfl (fun K9 hK9 => ?_) AllReadyIn.nil
      go_simp
      refine hK9 _ _ ?_
      clear hK9 K9
      try simp only [Act.put]
      refine wpAnyIn_done (by kernel_rfl) ?_ _
      exact HE6.out.2
    refine AllReadyIn.cons (o := ⟨some 17, _, _, _, _, _⟩) rfl (fun K9 hK9 => ?_) AllReadyIn.nil
    go_simp
    refine hK9 _ _ ?_
    clear hK9 K9
    try simp only [Act.put, List.setIfInBounds_toArray, List.set_cons_zero, List.set_cons_succ]
    refine wpAnyIn_ready (rs := [0, 1]) (by kernel_rfl) (by simp) ?_
    refine AllReadyIn.cons (o := ⟨some 14, _, _, _, _, _⟩) rfl (fun K9 hK9 => ?_) ?_
    · skip
      go_simp
      refine hK9 _ _ ?_
      clear hK9 K9
      try simp only [Act.put, List.setIfInBounds_toArray, List.set_cons_zero, List.set_cons_succ]
      refine wpAnyIn_ready (rs := [1]) (by kernel_rfl) (by simp) ?_
      refine AllReadyIn.cons (o := ⟨some 15, _, _, _, _, _⟩) rfl (fun K9 hK9 => ?_) AllReadyIn.nil
      go_simp
      refine hK9 _ _ ?_
      clear hK9 K9
      try simp only [Act.put, List.setIfInBounds_toArray, List.set_cons_zero, List.set_cons_succ]
      refine wpAnyIn_ready (rs := [2]) (by kernel_rfl) (by simp) ?_
      refine AllReadyIn.cons (o := ⟨some 16, _, _, _, _, _⟩) rfl (fun K9 hK9 => ?_) AllReadyIn.nil
      go_simp
      refine hK9 _ _ ?_
      clear hK9 K9
      try simp only [Act.put, List.setIfInBounds_toArray, List.set_cons_zero, List.set_cons_succ]
      refine wpAnyIn_ready (rs := [4]) (by kernel_rfl) (by simp) ?_
      refine AllReadyIn.cons (o := ⟨some 18, _, _, _, _, _⟩) rfl (fun K9 hK9 => ?_) AllReadyIn.nil
      go_simp
      refine hK9 _ _ ?_
      clear hK9 K9
      try simp only [Act.put, List.setIfInBounds_toArray, List.set_cons_zero, List.set_cons_succ]
      refine wpAnyIn_ready (rs := [5]) (by kernel_rfl) (by simp) ?_
      refine AllReadyIn.cons (o := ⟨some 19, _, _, _, _, _⟩) rfl (fun K9 hK9 => ?_) AllReadyIn.nil
      go_simp
      refine hK9 _ _ ?_
      clear hK9 K9
      try simp only [Act.put, List.setIfInBounds_toArray, List.set_cons_zero, List.set_cons_succ]
      refine wpAnyIn_ready (rs := [6]) (by kernel_rfl) (by simp) ?_
      refine AllReadyIn.cons (o := ⟨some 20, _, _, _, _, _⟩) rfl (fun K9 hK9 => ?_) AllReadyIn.nil
      go_simp
      refine hK9 _ _ ?_
      clear hK9 K9
      try simp only [Act.put, List.setIfInBounds_toArray, List.set_cons_zero, List.set_cons_succ]
      refine wpAnyIn_ready (rs := [7]) (by kernel_rfl) (by simp) ?_
      refine AllReadyIn.cons (o := ⟨some 21, _, _, _, _, _⟩) rfl (fun K9 hK9 => ?_) AllReadyIn.nil
      refine stepIn_append (by kernel_rfl) _ _ 22 rfl w.heap.size 9 i0 (.string ⟨#[]⟩) 1 16 Try.underlying22 hi0 hz0 hz1 hz2 rfl (by decide) v pre.length (TQ L pre) (by rfl) HO.out ⟨V'.drew.heap.size, 0, none⟩ 1 1 [sv t] (by rfl) rfl HN.out (by simp [Value.oneCell']) (by unfold maxLen; have := HLN.out; omega) (by have := HLN.out; omega) (HSZ.out) ?_
      intro v6 w6 hown6 hgr6 _
      obtain ⟨g6, d6, rfl⟩ := ownsRow_succ hown6
      have HE6 := Lib.hid (HEND.out _ w6 hown6 hgr6)
      have c6 := HE6.out.1.1
      have f6 := HE6.out.1.2
      clear hown6 hgr6
      refine hK9 _ _ ?_
      clear hK9 K9
      try simp only [Act.put, List.setIfInBounds_toArray, List.set_cons_zero, List.set_cons_succ]
      refine wpAnyIn_ready (rs := [8]) (by kernel_rfl) (by simp) ?_
      refine AllReadyIn.cons (o := ⟨none, _, _, _, _, _⟩) rfl (fun K9 hK9 => ?_) AllReadyIn.nil
      go_simp
      refine hK9 _ _ ?_
      clear hK9 K9
      try simp only [Act.put]
      refine wpAnyIn_done (by kernel_rfl) ?_ _
      exact HE6.out.2
    refine AllReadyIn.cons (o := ⟨some 15, _, _, _, _, _⟩) rfl (fun K9 hK9 => ?_) AllReadyIn.nil
    go_simp
    refine hK9 _ _ ?_
    clear hK9 K9
    try simp only [Act.put, List.setIfInBounds_toArray, List.set_cons_zero, List.set_cons_succ]
    refine wpAnyIn_ready (rs := [0, 2]) (by kernel_rfl) (by simp) ?_
    refine AllReadyIn.cons (o := ⟨some 14, _, _, _, _, _⟩) rfl (fun K9 hK9 => ?_) ?_
    · skip
      go_simp
      refine hK9 _ _ ?_
      clear hK9 K9
      try simp only [Act.put, List.setIfInBounds_toArray, List.set_cons_zero, List.set_cons_succ]
      refine wpAnyIn_ready (rs := [2]) (by kernel_rfl) (by simp) ?_
      refine AllReadyIn.cons (o := ⟨some 16, _, _, _, _, _⟩) rfl (fun K9 hK9 => ?_) AllReadyIn.nil
      go_simp
      refine hK9 _ _ ?_
      clear hK9 K9
      try simp only [Act.put, List.setIfInBounds_toArray, List.set_cons_zero, List.set_cons_succ]
      refine wpAnyIn_ready (rs := [4]) (by kernel_rfl) (by simp) ?_
      refine AllReadyIn.cons (o := ⟨some 18, _, _, _, _, _⟩) rfl (fun K9 hK9 => ?_) AllReadyIn.nil
      go_simp
      refine hK9 _ _ ?_
      clear hK9 K9
      try simp only [Act.put, List.setIfInBounds_toArray, List.set_cons_zero, List.set_cons_succ]
      refine wpAnyIn_ready (rs := [5]) (by kernel_rfl) (by simp) ?_
      refine AllReadyIn.cons (o := ⟨some 19, _, _, _, _, _⟩) rfl (fun K9 hK9 => ?_) AllReadyIn.nil
      go_simp
      refine hK9 _ _ ?_
      clear hK9 K9
      try simp only [Act.put, List.setIfInBounds_toArray, List.set_cons_zero, List.set_cons_succ]
      refine wpAnyIn_ready (rs := [6]) (by kernel_rfl) (by simp) ?_
      refine AllReadyIn.cons (o := ⟨some 20, _, _, _, _, _⟩) rfl (fun K9 hK9 => ?_) AllReadyIn.nil
      go_simp
      refine hK9 _ _ ?_
      clear hK9 K9
      try simp only [Act.put, List.setIfInBounds_toArray, List.set_cons_zero, List.set_cons_succ]
      refine wpAnyIn_ready (rs := [7]) (by kernel_rfl) (by simp) ?_
      refine AllReadyIn.cons (o := ⟨some 21, _, _, _, _, _⟩) rfl (fun K9 hK9 => ?_) AllReadyIn.nil
      refine stepIn_append (by kernel_rfl) _ _ 22 rfl w.heap.size 9 i0 (.string ⟨#[]⟩) 1 16 Try.underlying22 hi0 hz0 hz1 hz2 rfl (by decide) v pre.length (TQ L pre) (by rfl) HO.out ⟨V'.drew.heap.size, 0, none⟩ 1 1 [sv t] (by rfl) rfl HN.out (by simp [Value.oneCell']) (by unfold maxLen; have := HLN.out; omega) (by have := HLN.out; omega) (HSZ.out) ?_
      intro v6 w6 hown6 hgr6 _
      obtain ⟨g6, d6, rfl⟩ := ownsRow_succ hown6
      have HE6 := Lib.hid (HEND.out _ w6 hown6 hgr6)
      have c6 := HE6.out.1.1
      have f6 := HE6.out.1.2
      clear hown6 hgr6
      refine hK9 _ _ ?_
      clear hK9 K9
      try simp only [Act.put, List.setIfInBounds_toArray, List.set_cons_zero, List.set_cons_succ]
      refine wpAnyIn_ready (rs := [8]) (by kernel_rfl) (by simp) ?_
      refine AllReadyIn.cons (o := ⟨none, _, _, _, _, _⟩) rfl (fun K9 hK9 => ?_) AllReadyIn.nil
      go_simp
      refine hK9 _ _ ?_
      clear hK9 K9
      try simp only [Act.put]
      refine wpAnyIn_done (by kernel_rfl) ?_ _
      exact HE6.out.2
    refine AllReadyIn.cons (o := ⟨some 16, _, _, _, _, _⟩) rfl (fun K9 hK9 => ?_) AllReadyIn.nil
    go_simp
    refine hK9 _ _ ?_
    clear hK9 K9
    try simp only [Act.put, List.setIfInBounds_toArray, List.set_cons_zero, List.set_cons_succ]
    refine wpAnyIn_ready (rs := [0, 4]) (by kernel_rfl) (by simp) ?_
    refine AllReadyIn.cons (o := ⟨some 14, _, _, _, _, _⟩) rfl (fun K9 hK9 => ?_) ?_
    · skip
      go_simp
      refine hK9 _ _ ?_
      clear hK9 K9
      try simp only [Act.put, List.setIfInBounds_toArray, List.set_cons_zero, List.set_cons_succ]
      refine wpAnyIn_ready (rs := [4]) (by kernel_rfl) (by simp) ?_
      refine AllReadyIn.cons (o := ⟨some 18, _, _, _, _, _⟩) rfl (fun K9 hK9 => ?_) AllReadyIn.nil
      go_simp
      refine hK9 _ _ ?_
      clear hK9 K9
      try simp only [Act.put, List.setIfInBounds_toArray, List.set_cons_zero, List.set_cons_succ]
      refine wpAnyIn_ready (rs := [5]) (by kernel_rfl) (by simp) ?_
      refine AllReadyIn.cons (o := ⟨some 19, _, _, _, _, _⟩) rfl (fun K9 hK9 => ?_) AllReadyIn.nil
      go_simp
      refine hK9 _ _ ?_
      clear hK9 K9
      try simp only [Act.put, List.setIfInBounds_toArray, List.set_cons_zero, List.set_cons_succ]
      refine wpAnyIn_ready (rs := [6]) (by kernel_rfl) (by simp) ?_
      refine AllReadyIn.cons (o := ⟨some 20, _, _, _, _, _⟩) rfl (fun K9 hK9 => ?_) AllReadyIn.nil
      go_simp
      refine hK9 _ _ ?_
      clear hK9 K9
      try simp only [Act.put, List.setIfInBounds_toArray, List.set_cons_zero, List.set_cons_succ]
      refine wpAnyIn_ready (rs := [7]) (by kernel_rfl) (by simp) ?_
      refine AllReadyIn.cons (o := ⟨some 21, _, _, _, _, _⟩) rfl (fun K9 hK9 => ?_) AllReadyIn.nil
      refine stepIn_append (by kernel_rfl) _ _ 22 rfl w.heap.size 9 i0 (.string ⟨#[]⟩) 1 16 Try.underlying22 hi0 hz0 hz1 hz2 rfl (by decide) v pre.length (TQ L pre) (by rfl) HO.out ⟨V'.drew.heap.size, 0, none⟩ 1 1 [sv t] (by rfl) rfl HN.out (by simp [Value.oneCell']) (by unfold maxLen; have := HLN.out; omega) (by have := HLN.out; omega) (HSZ.out) ?_
      intro v6 w6 hown6 hgr6 _
      obtain ⟨g6, d6, rfl⟩ := ownsRow_succ hown6
      have HE6 := Lib.hid (HEND.out _ w6 hown6 hgr6)
      have c6 := HE6.out.1.1
      have f6 := HE6.out.1.2
      clear hown6 hgr6
      refine hK9 _ _ ?_
      clear hK9 K9
      try simp only [Act.put, List.setIfInBounds_toArray, List.set_cons_zero, List.set_cons_succ]
      refine wpAnyIn_ready (rs := [8]) (by kernel_rfl) (by simp) ?_
      refine AllReadyIn.cons (o := ⟨none, _, _, _, _, _⟩) rfl (fun K9 hK9 => ?_) AllReadyIn.nil
      go_simp
      refine hK9 _ _ ?_
      clear hK9 K9
      try simp only [Act.put]
      refine wpAnyIn_done (by kernel_rfl) ?_ _
      exact HE6.out.2
    refine AllReadyIn.cons (o := ⟨some 18, _, _, _, _, _⟩) rfl (fun K9 hK9 => ?_) AllReadyIn.nil
    go_simp
    refine hK9 _ _ ?_
    clear hK9 K9
    try simp only [Act.put, List.setIfInBounds_toArray, List.set_cons_zero, List.set_cons_succ]
    refine wpAnyIn_ready (rs := [0, 5]) (by kernel_rfl) (by simp) ?_
    refine AllReadyIn.cons (o := ⟨some 14, _, _, _, _, _⟩) rfl (fun K9 hK9 => ?_) ?_
    · skip
      go_simp
      refine hK9 _ _ ?_
      clear hK9 K9
      try simp only [Act.put, List.setIfInBounds_toArray, List.set_cons_zero, List.set_cons_succ]
      refine wpAnyIn_ready (rs := [5]) (by kernel_rfl) (by simp) ?_
      refine AllReadyIn.cons (o := ⟨some 19, _, _, _, _, _⟩) rfl (fun K9 hK9 => ?_) AllReadyIn.nil
      go_simp
      refine hK9 _ _ ?_
      clear hK9 K9
      try simp only [Act.put, List.setIfInBounds_toArray, List.set_cons_zero, List.set_cons_succ]
      refine wpAnyIn_ready (rs := [6]) (by kernel_rfl) (by simp) ?_
      refine AllReadyIn.cons (o := ⟨some 20, _, _, _, _, _⟩) rfl (fun K9 hK9 => ?_) AllReadyIn.nil
      go_simp
      refine hK9 _ _ ?_
      clear hK9 K9
      try simp only [Act.put, List.setIfInBounds_toArray, List.set_cons_zero, List.set_cons_succ]
      refine wpAnyIn_ready (rs := [7]) (by kernel_rfl) (by simp) ?_
      refine AllReadyIn.cons (o := ⟨some 21, _, _, _, _, _⟩) rfl (fun K9 hK9 => ?_) AllReadyIn.nil
      refine stepIn_append (by kernel_rfl) _ _ 22 rfl w.heap.size 9 i0 (.string ⟨#[]⟩) 1 16 Try.underlying22 hi0 hz0 hz1 hz2 rfl (by decide) v pre.length (TQ L pre) (by rfl) HO.out ⟨V'.drew.heap.size, 0, none⟩ 1 1 [sv t] (by rfl) rfl HN.out (by simp [Value.oneCell']) (by unfold maxLen; have := HLN.out; omega) (by have := HLN.out; omega) (HSZ.out) ?_
      intro v6 w6 hown6 hgr6 _
      obtain ⟨g6, d6, rfl⟩ := ownsRow_succ hown6
      have HE6 := Lib.hid (HEND.out _ w6 hown6 hgr6)
      have c6 := HE6.out.1.1
      have f6 := HE6.out.1.2
      clear hown6 hgr6
      refine hK9 _ _ ?_
      clear hK9 K9
      try simp only [Act.put, List.setIfInBounds_toArray, List.set_cons_zero, List.set_cons_succ]
      refine wpAnyIn_ready (rs := [8]) (by kernel_rfl) (by simp) ?_
      refine AllReadyIn.cons (o := ⟨none, _, _, _, _, _⟩) rfl (fun K9 hK9 => ?_) AllReadyIn.nil
      go_simp
      refine hK9 _ _ ?_
      clear hK9 K9
      try simp only [Act.put]
      refine wpAnyIn_done (by kernel_rfl) ?_ _
      exact HE6.out.2
    refine AllReadyIn.cons (o := ⟨some 19, _, _, _, _, _⟩) rfl (fun K9 hK9 => ?_) AllReadyIn.nil
    go_simp
    refine hK9 _ _ ?_
    clear hK9 K9
    try simp only [Act.put, List.setIfInBounds_toArray, List.set_cons_zero, List.set_cons_succ]
    refine wpAnyIn_ready (rs := [0, 6]) (by kernel_rfl) (by simp) ?_
    refine AllReadyIn.cons (o := ⟨some 14, _, _, _, _, _⟩) rfl (fun K9 hK9 => ?_) ?_
    · skip
      go_simp
      refine hK9 _ _ ?_
      clear hK9 K9
      try simp only [Act.put, List.setIfInBounds_toArray, List.set_cons_zero, List.set_cons_succ]
      refine wpAnyIn_ready (rs := [6]) (by kernel_rfl) (by simp) ?_
      refine AllReadyIn.cons (o := ⟨some 20, _, _, _, _, _⟩) rfl (fun K9 hK9 => ?_) AllReadyIn.nil
      go_simp
      refine hK9 _ _ ?_
      clear hK9 K9
      try simp only [Act.put, List.setIfInBounds_toArray, List.set_cons_zero, List.set_cons_succ]
      refine wpAnyIn_ready (rs := [7]) (by kernel_rfl) (by simp) ?_
      refine AllReadyIn.cons (o := ⟨some 21, _, _, _, _, _⟩) rfl (fun K9 hK9 => ?_) AllReadyIn.nil
      refine stepIn_append (by kernel_rfl) _ _ 22 rfl w.heap.size 9 i0 (.string ⟨#[]⟩) 1 16 Try.underlying22 hi0 hz0 hz1 hz2 rfl (by decide) v pre.length (TQ L pre) (by rfl) HO.out ⟨V'.drew.heap.size, 0, none⟩ 1 1 [sv t] (by rfl) rfl HN.out (by simp [Value.oneCell']) (by unfold maxLen; have := HLN.out; omega) (by have := HLN.out; omega) (HSZ.out) ?_
      intro v6 w6 hown6 hgr6 _
      obtain ⟨g6, d6, rfl⟩ := ownsRow_succ hown6
      have HE6 := Lib.hid (HEND.out _ w6 hown6 hgr6)
      have c6 := HE6.out.1.1
      have f6 := HE6.out.1.2
      clear hown6 hgr6
      refine hK9 _ _ ?_
      clear hK9 K9
      try simp only [Act.put, List.setIfInBounds_toArray, List.set_cons_zero, List.set_cons_succ]
      refine wpAnyIn_ready (rs := [8]) (by kernel_rfl) (by simp) ?_
      refine AllReadyIn.cons (o := ⟨none, _, _, _, _, _⟩) rfl (fun K9 hK9 => ?_) AllReadyIn.nil
      go_simp
      refine hK9 _ _ ?_
      clear hK9 K9
      try simp only [Act.put]
      refine wpAnyIn_done (by kernel_rfl) ?_ _
      exact HE6.out.2
    refine AllReadyIn.cons (o := ⟨some 20, _, _, _, _, _⟩) rfl (fun K9 hK9 => ?_) AllReadyIn.nil
    go_simp
    refine hK9 _ _ ?_
    clear hK9 K9
    try simp only [Act.put, List.setIfInBounds_toArray, List.set_cons_zero, List.set_cons_succ]
    refine wpAnyIn_ready (rs := [0]) (by kernel_rfl) (by simp) ?_
    refine AllReadyIn.cons (o := ⟨some 14, _, _, _, _, _⟩) rfl (fun K9 hK9 => ?_) AllReadyIn.nil
    go_simp
    refine hK9 _ _ ?_
    clear hK9 K9
    try simp only [Act.put, List.setIfInBounds_toArray, List.set_cons_zero, List.set_cons_succ]
    refine wpAnyIn_ready (rs := [7]) (by kernel_rfl) (by simp) ?_
    refine AllReadyIn.cons (o := ⟨some 21, _, _, _, _, _⟩) rfl (fun K9 hK9 => ?_) AllReadyIn.nil
    refine stepIn_append (by kernel_rfl) _ _ 22 rfl w.heap.size 9 i0 (.string ⟨#[]⟩) 1 16 Try.underlying22 hi0 hz0 hz1 hz2 rfl (by decide) v pre.length (TQ L pre) (by rfl) HO.out ⟨V'.drew.heap.size, 0, none⟩ 1 1 [sv t] (by rfl) rfl HN.out (by simp [Value.oneCell']) (by unfold maxLen; have := HLN.out; omega) (by have := HLN.out; omega) (HSZ.out) ?_
    intro v6 w6 hown6 hgr6 _
    obtain ⟨g6, d6, rfl⟩ := ownsRow_succ hown6
    have HE6 := Lib.hid (HEND.out _ w6 hown6 hgr6)
    have c6 := HE6.out.1.1
    have f6 := HE6.out.1.2
    clear hown6 hgr6
    refine hK9 _ _ ?_
    clear hK9 K9
    try simp only [Act.put, List.setIfInBounds_toArray, List.set_cons_zero, List.set_cons_succ]
    refine wpAnyIn_ready (rs := [8]) (by kernel_rfl) (by simp) ?_
    refine AllReadyIn.cons (o := ⟨none, _, _, _, _, _⟩) rfl (fun K9 hK9 => ?_) AllReadyIn.nil
    go_simp
    refine hK9 _ _ ?_
    clear hK9 K9
    try simp only [Act.put]
    refine wpAnyIn_done (by kernel_rfl) ?_ _
    exact HE6.out.2
  case done =>
    rintro D W hD ⟨v, i1, i2, i3, i4⟩ hKd
    obtain ⟨A', c', rfl, hcc⟩ := own_form i3
    clear hcc
    have c0 : W.cell? ⟨G, 0, none⟩ = some (.slice A' zs.length c') := i2.cell 0
    have HF : Hid ((W.putObj D (.deferred none)).ownsRow w.heap.size 9 1 (.slice A' m c') m ((qitems L f m).map sv)) := Lib.hid (by
      have h1 := qown_kept (W' := W.putObj D (.deferred none)) i3 (fun k hk => by
        obtain ⟨_, cs, hb⟩ := qown_blk i3 k hk
        exact (qblk_putObj hb hKd rfl).trans hb.symm)
      rwa [HE.out, HL.out] at h1)
    have HBW : Hid (Below w.heap.size w (W.putObj D (.deferred none))) := Lib.hid (i4.grown (grownBy_putObj' W D _) i4.size (fun k e => by cases e; omega))
    rw [HL.out] at c0
    clear i1 i2 i3 i4 K0 K1 HB z4 HHA HX HE HL
    gi_wp2
    refine ⟨by simp, .inl ⟨_, _, rfl, run_takeDeferred hKd, ?_⟩⟩
    exact ⟨.tuple #[.slice A' m c', .int .i64 0], by kernel_rfl, A', c', rfl, HF.out, HBW.out⟩
  case stop =>
    rintro D c pre W hD hp h
    exact h.elim
end Go.Proofs.Ytnehodipblabbaa
