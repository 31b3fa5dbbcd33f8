/- The contract of Blocks. -/
import Derived.Test.YtlfghagidajpeaaGSum
namespace Go.Proofs.Ytlfghagidajpeaa
open Go.RowKit Go.Shelf
attribute [local go_sem] Oper.semAt_some

def blocksL (h t : List UInt8) : List (List UInt8) := (blocksN h t).map nb
theorem own_kept {W W' : World} {base : Nat} {e : TypeId} {size : Nat} {v : Value} {n : Nat} {xs : List Value} (h : W.ownsRow base e size v n xs) (hk : ∀ k, v.ownBlock = some k → W'.heap[k]? = W.heap[k]?) : W'.ownsRow base e size v n xs := by
  obtain ⟨h1, h2⟩ := h
  refine ⟨h1, ?_⟩
  rcases h2 with h2 | ⟨g, cap, cur, hv, hg, hh, r⟩
  · exact .inl h2
  · exact .inr ⟨g, cap, cur, hv, hg, (hk g (by rw [hv]; rfl)).trans hh, r⟩
def TX (l : List Nat) : List Value := l.map fun N => sv (nb N)
theorem TX_more (l : List Nat) (x : Nat) : TX (l ++ [x]) = TX l ++ [sv (nb x)] := by simp [TX]
/-- Between two rounds. -/
def BlkI (w : World) (g : Nat) (pre : List Nat) (Y : Nat → Prop) (V : World) : Prop :=
  ∃ v : Value, Blk V g 31 #[v] ∧ V.ownsRow w.heap.size 9 1 v pre.length (TX pre) ∧ (∀ k, v.ownBlock = some k → ¬ Y k ∧ k ≠ g ∧ k < V.heap.size) ∧ ¬ Y g ∧ (∀ k, Y k → w.heap.size ≤ k) ∧ Below w.heap.size w V
theorem BlkI.ab (w : World) (g : Nat) : Ab (BlkI w g) := by
  rintro s X V V' ⟨v, h1, h2, h3, h4, h5, h6⟩ hgr
  refine ⟨v, (hgr.block _ h1.lt h4).trans h1, own_kept h2 (fun k hk => hgr.block k (h3 k hk).2.2 (h3 k hk).1), fun k hk => ⟨?_, (h3 k hk).2.1, Nat.lt_of_lt_of_le (h3 k hk).2.2 hgr.size⟩, ?_, ?_, ?_⟩
  · rintro (h | ⟨h, _⟩)
    · exact (h3 k hk).1 h
    · have := (h3 k hk).2.2; omega
  · rintro (h | ⟨h, _⟩)
    · exact h4 h
    · have := h1.lt; omega
  · rintro k (h | ⟨h, _⟩)
    · exact h5 k h
    · have := h6.size; omega
  · exact ⟨hgr.os.trans h6.os, hgr.tape.trans h6.tape, hgr.output.trans h6.output, Nat.le_trans h6.size hgr.size, fun k hk => (hgr.block k (Nat.lt_of_lt_of_le hk h6.size) (fun hx => by have := h5 k hx; omega)).trans (h6.block k hk)⟩
theorem BlkI.below {w : World} {g : Nat} {pre : List Nat} {Y : Nat → Prop} {V V' : World} (h : BlkI w g pre Y V) (hb : Below V.heap.size V V') : BlkI w g pre Y V' := by
  obtain ⟨v, h1, h2, h3, h4, h5, h6⟩ := h
  exact ⟨v, h1.below hb, own_later h2 hb, fun k hk => ⟨(h3 k hk).1, (h3 k hk).2.1, Nat.lt_of_lt_of_le (h3 k hk).2.2 hb.size⟩, h4, h5, bt h6 hb⟩
theorem blocksN_len (h t : List UInt8) : (blocksN h t).length = (h.length + 15) / 16 + (t.length + 15) / 16 + 1 := by
  unfold blocksN
  rw [List.length_append, List.length_append, fillC_len, fillC_len]
  rfl

set_option maxRecDepth 100000 in
set_option maxHeartbeats 8000000 in
theorem blks_any (h t : List UInt8) (w : World) (hh : h.length ≤ 80) (ht : t.length ≤ 80) :
    Calls Try.prog 13 #[.string ⟨h.toArray⟩, .string ⟨t.toArray⟩] w fun e w' => ∃ A c, e = .returned (.slice A (blocksN h t).length c) ∧ SR w' A (blocksL h t) ∧ Below w.heap.size w w' := by
  refine (callsIn_wide (n := 20)).1 ?_
  obtain ⟨i0, hi0, hz0, hz1, hz2⟩ := info_parts infoS
  have eg : ∀ args w, (callFunc 33 args).run Try.prog w = .ok (.enter 33 args) w := enters_of Try.func33 (by kernel_rfl) rfl
  refine callsIn_of_wp_marks Try.func13 rfl trivial ?_ rfl
  simp only [Try.ntmps13, List.size_toArray, List.length_cons, List.length_nil, Nat.reduceAdd, Nat.reduceSub, Array.replicate_succ, Array.replicate_zero, List.push_toArray, List.append_toArray, List.nil_append, List.cons_append]
  gi_wp2_with fail
  refine ⟨trivial, ?_⟩
  refine (callsIn_wide.2 (blocks_any h t _)).mono ?_
  rintro e w' ⟨rfl, rfl⟩
  gi_wp2
  generalize hW0 : World.alloc (World.alloc (World.alloc w _) _) _ = W0
  have z0 : W0.heap.size = w.heap.size + 3 := by rw [← hW0]; simp
  have hB1 : Below w.heap.size w W0 := by rw [← hW0]; exact ba (ba (ba (Below.refl _ _) _) _) _
  have bG : Blk W0 w.heap.size 31 #[.slice none 0 0] := by rw [← hW0]; exact ((Blk.new w _ _).alloc _).alloc _
  have b1 : Blk W0 (w.heap.size + 1) 9 #[.string ⟨h.toArray⟩] := by rw [← hW0]; exact (Blk.newAt (by simp) _ _).alloc _
  have b2 : Blk W0 (w.heap.size + 1 + 1) 9 #[.string ⟨t.toArray⟩] := by rw [← hW0]; exact Blk.newAt (by simp) _ _
  clear hW0
  refine range_frame (n := 20) (by omega) (gf := 33) (lb := #[.pointer (some ⟨w.heap.size + 1, 0, none⟩), .pointer (some ⟨w.heap.size + 1 + 1, 0, none⟩)]) rfl eg (enc := fun N => .agg (Pol N)) (zs := blocksN h t) (X0 := fun k => k = w.heap.size + 1 ∨ k = w.heap.size + 1 + 1) (w0 := W0) (blocks_hands 19 (by omega) _ _ h t W0 hh ht b1 b2) (fun k hk => ⟨by omega, rfl⟩) (BlkI w w.heap.size) (BlkI.ab w _) ⟨.slice none 0 0, bG, World.ownsRow_nil _ _ _ _, (fun k hk => by cases hk), by omega, fun k hk => by omega, hB1⟩
    (fun x a' V => ∃ Bp, Blk V Bp 40 (Pol x) ∧ a' = { tmps := #[.string ⟨h.toArray⟩, .string ⟨t.toArray⟩, undef, undef, .slice none 0 0, .pointer (some ⟨w.heap.size, 0, none⟩), .pointer (some ⟨Bp, 0, none⟩), .string ⟨h.toArray⟩, .string ⟨t.toArray⟩, .func (.func 33) #[] #[.pointer (some ⟨w.heap.size + 1, 0, none⟩), .pointer (some ⟨w.heap.size + 1 + 1, 0, none⟩)], .agg (Pol x), undef, undef, undef, undef, undef, undef], defers := [] })
    (fun x a' V' k o o' hs hl ho hc => by
      obtain ⟨Bp, h1, h2⟩ := hs
      refine ⟨Bp, (World.putObj_heap_other (fun e9 => ?_)).trans h1, h2⟩
      subst e9
      rw [show V'.heap[Bp]? = _ from h1] at ho
      cases ho
      cases hc)
    ?assign ?body ?done
  case assign =>
    rintro l9 pre x Y V' K hI hbY _ _ hK
    have HI2 : Hid (BlkI w w.heap.size pre Y (V'.alloc (.cells (Pol x) 40))) := Lib.hid (hI.below (ba (Below.refl _ _) _))
    have HKP : Hid (Keep Y V' (V'.alloc (.cells (Pol x) 40))) := Lib.hid (Keep.of_below (ba (Below.refl _ _) _) hbY)
    have HBP := Lib.hid (Blk.new V' 40 (Pol x))
    clear hI hbY
    gi_wp2
    exact hK _ _ HI2.out HKP.out ⟨V'.heap.size, HBP.out, rfl⟩
  case body =>
    rintro l9 pre x a' Y V' hl9 ⟨v, i1, i2, i3, i4, i5, i6⟩ hbY ⟨Bp, hbp, rfl⟩ hpre
    have hmx : Try.prog.follows .mixedOrders = true := by kernel_rfl
    have HTO := Lib.hid (fun V => gtold_any x V)
    have HLN : Hid (pre.length ≤ 20) := Lib.hid (by
      have h1 := hpre.length_le
      rw [List.length_append, blocksN_len] at h1
      omega)
    have JB : Hid (Blk V'.drew Bp 40 (Pol x)) := Lib.hid hbp
    have HO0 : Hid (V'.drew.ownsRow w.heap.size 9 1 v pre.length (TX pre)) := Lib.hid i2
    have c0 : V'.drew.cell? ⟨w.heap.size, 0, none⟩ = some v := i1.cell 0
    have zz := i6.size
    have HEND : Hid (∀ (v1 : World) (v6 : Value) (w6 : World), Below V'.drew.heap.size V'.drew v1 → w6.ownsRow w.heap.size 9 1 v6 (pre.length + 1) (TX pre ++ [sv (nb x)]) → (v1.alloc (.cells #[sv (nb x)] 9)).grownBy w6 v.ownBlock → (v6.ownBlock = v.ownBlock ∨ v6.ownBlock = some (v1.alloc (.cells #[sv (nb x)] 9)).heap.size) →
        w6.cell? ⟨w.heap.size, 0, none⟩ = some v ∧ w6.frozen? ⟨w.heap.size, 0, none⟩ = false ∧ BlkI w w.heap.size (pre ++ [x]) Y (w6.setCell ⟨w.heap.size, 0, none⟩ v6) ∧ Keep Y V' (w6.setCell ⟨w.heap.size, 0, none⟩ v6)) := Lib.hid (fun v1 v6 w6 h1 h2 h3 h4 => by
      have hbb : Below V'.heap.size V' (v1.alloc (.cells #[sv (nb x)] 9)) := ba (bt (Below.refl V'.heap.size V').drew h1) _
      have hsz : (v1.alloc (.cells #[sv (nb x)] 9)).heap.size = v1.heap.size + 1 := by simp
      have hs1 := hbb.size
      have g1 := i1.below hbb
      have g6 : Blk w6 w.heap.size 31 #[v] := (h3.block _ g1.lt (fun e => (i3 _ e.symm).2.1 rfl)).trans g1
      have hne6 : ∀ k, v6.ownBlock = some k → k ≠ w.heap.size ∧ ¬ Y k := by
        intro k hk
        rcases h4 with e | e
        · exact ⟨(i3 k (e ▸ hk)).2.1, (i3 k (e ▸ hk)).1⟩
        · rw [e] at hk
          cases hk
          have l1 := i1.lt
          exact ⟨by omega, fun hy => by have := hbY _ hy; omega⟩
      have h6 : Below w.heap.size w w6 := (bt i6 hbb).grown h3 (by have := i6.size; omega) (fun k e => (i2.lt k e).1)
      refine ⟨g6.cell 0, g6.frozen 0, ⟨v6, g6.set_ 0 v6, ?_, ?_, i4, i5, bs h6 (Nat.le_refl _) v6⟩, ?_, ?_⟩
      · rw [List.length_append, TX_more]
        exact own_kept h2 (fun k hk => Below.heap_setCell w6 ⟨w.heap.size, 0, none⟩ v6 k (hne6 k hk).1)
      · intro k hk
        refine ⟨(hne6 k hk).2, (hne6 k hk).1, ?_⟩
        have := (h2.lt k hk).2
        simpa [World.setCell] using this
      · have := h3.size
        simp only [World.setCell, Array.size_modify]
        omega
      · intro k hk
        have hlt := hbY k hk
        have hne : k ≠ w.heap.size := fun e => i4 (e ▸ hk)
        refine (Below.heap_setCell w6 ⟨w.heap.size, 0, none⟩ v6 k hne).trans ((h3.block k (by omega) (fun e => (i3 k e.symm).1 hk)).trans (hbb.block k hlt)))
    obtain ⟨T, hT⟩ : ∃ T, nb x = T := ⟨_, rfl⟩
    rw [hT] at HTO HEND
    clear i1 i2 i3 i4 i5 i6 hbp hbY hpre hT
    gi_wp2
    refine wpIn_region_any (by assumption) ?_
    change wpAnyIn _ _ _ _ _ _ _ _ _ (World.drew _)
    refine wpAnyIn_ready (rs := [0, 1]) (by kernel_rfl) (by simp) ?_
    refine AllReadyIn.cons (o := ⟨some 11, _, _, _, _, _⟩) rfl (fun K9 hK9 => ?_) ?_
    · skip
      go_simp
      refine hK9 _ _ ?_
      clear hK9 K9
      try simp only [Act.put, List.setIfInBounds_toArray, List.set_cons_zero, List.set_cons_succ]
      refine wpAnyIn_ready (rs := [1]) (by kernel_rfl) (by simp) ?_
      refine AllReadyIn.cons (o := ⟨some 12, _, _, _, _, _⟩) rfl (fun K9 hK9 => ?_) AllReadyIn.nil
      refine stepIn_load (by kernel_rfl) _ _ rfl _ rfl _ _ _ _ JB.out Try.underlying40 rfl (plen _) ?_
      refine hK9 _ _ ?_
      clear hK9 K9
      try simp only [Act.put, List.setIfInBounds_toArray, List.set_cons_zero, List.set_cons_succ]
      refine wpAnyIn_ready (rs := [2]) (by kernel_rfl) (by simp) ?_
      refine AllReadyIn.cons (o := ⟨some 13, _, _, _, _, _⟩) rfl (fun K9 hK9 => ?_) AllReadyIn.nil
      go_simp
      refine ⟨trivial, ?_⟩
      refine (CallsIn.inRound l9 (callsIn_wide.2 (HTO.out _))).mono ?_
      rintro e v1 ⟨rfl, hb7⟩
      have c1 := cell_later hb7 c0
      have HO1 := Lib.hid (own_later HO0.out hb7)
      have z1 : V'.heap.size ≤ v1.heap.size := hb7.size
      refine hK9 _ _ ?_
      clear hK9 K9
      try simp only [Act.put, List.setIfInBounds_toArray, List.set_cons_zero, List.set_cons_succ]
      refine wpAnyIn_ready (rs := [3]) (by kernel_rfl) (by simp) ?_
      refine AllReadyIn.cons (o := ⟨some 14, _, _, _, _, _⟩) rfl (fun K9 hK9 => ?_) AllReadyIn.nil
      have c2 := cell_later (ba (Below.refl v1.heap.size v1) (.cells #[sv T] 9)) c1
      have HO2 := Lib.hid (own_alloc HO1.out (.cells #[sv T] 9))
      go_simp
      refine hK9 _ _ ?_
      clear hK9 K9
      try simp only [Act.put, List.setIfInBounds_toArray, List.set_cons_zero, List.set_cons_succ]
      refine wpAnyIn_ready (rs := [4]) (by kernel_rfl) (by simp) ?_
      refine AllReadyIn.cons (o := ⟨some 15, _, _, _, _, _⟩) rfl (fun K9 hK9 => ?_) AllReadyIn.nil
      refine stepIn_append (by kernel_rfl) _ _ 31 rfl w.heap.size 9 i0 (.string ⟨#[]⟩) 1 16 Try.underlying31 hi0 hz0 hz1 hz2 rfl (by decide) v pre.length (TX pre) (by rfl) HO2.out ⟨v1.heap.size, 0, none⟩ 1 1 [sv T] (by rfl) rfl (news_new v1 [sv T] 9) (by simp [Value.oneCell']) (by unfold maxLen; have := HLN.out; omega) (by have := HLN.out; omega) (by simp; omega) ?_
      intro v6 w6 hown6 hgr6 hat6
      obtain ⟨g6, d6, rfl⟩ := ownsRow_succ hown6
      have HE := Lib.hid (HEND.out v1 _ w6 hb7 hown6 hgr6 hat6)
      have c6 := HE.out.1
      have f6 := HE.out.2.1
      clear hown6 hgr6 hat6
      refine hK9 _ _ ?_
      clear hK9 K9
      try simp only [Act.put, List.setIfInBounds_toArray, List.set_cons_zero, List.set_cons_succ]
      refine wpAnyIn_ready (rs := [5]) (by kernel_rfl) (by simp) ?_
      refine AllReadyIn.cons (o := ⟨none, _, _, _, _, _⟩) rfl (fun K9 hK9 => ?_) AllReadyIn.nil
      go_simp
      refine hK9 _ _ ?_
      clear hK9 K9
      try simp only [Act.put]
      refine wpAnyIn_done (by kernel_rfl) ?_ _
      exact HE.out.2.2
    refine AllReadyIn.cons (o := ⟨some 12, _, _, _, _, _⟩) rfl (fun K9 hK9 => ?_) AllReadyIn.nil
    refine stepIn_load (by kernel_rfl) _ _ rfl _ rfl _ _ _ _ JB.out Try.underlying40 rfl (plen _) ?_
    refine hK9 _ _ ?_
    clear hK9 K9
    try simp only [Act.put, List.setIfInBounds_toArray, List.set_cons_zero, List.set_cons_succ]
    refine wpAnyIn_ready (rs := [0, 2]) (by kernel_rfl) (by simp) ?_
    refine AllReadyIn.cons (o := ⟨some 11, _, _, _, _, _⟩) rfl (fun K9 hK9 => ?_) ?_
    · skip
      go_simp
      refine hK9 _ _ ?_
      clear hK9 K9
      try simp only [Act.put, List.setIfInBounds_toArray, List.set_cons_zero, List.set_cons_succ]
      refine wpAnyIn_ready (rs := [2]) (by kernel_rfl) (by simp) ?_
      refine AllReadyIn.cons (o := ⟨some 13, _, _, _, _, _⟩) rfl (fun K9 hK9 => ?_) AllReadyIn.nil
      go_simp
      refine ⟨trivial, ?_⟩
      refine (CallsIn.inRound l9 (callsIn_wide.2 (HTO.out _))).mono ?_
      rintro e v1 ⟨rfl, hb7⟩
      have c1 := cell_later hb7 c0
      have HO1 := Lib.hid (own_later HO0.out hb7)
      have z1 : V'.heap.size ≤ v1.heap.size := hb7.size
      refine hK9 _ _ ?_
      clear hK9 K9
      try simp only [Act.put, List.setIfInBounds_toArray, List.set_cons_zero, List.set_cons_succ]
      refine wpAnyIn_ready (rs := [3]) (by kernel_rfl) (by simp) ?_
      refine AllReadyIn.cons (o := ⟨some 14, _, _, _, _, _⟩) rfl (fun K9 hK9 => ?_) AllReadyIn.nil
      have c2 := cell_later (ba (Below.refl v1.heap.size v1) (.cells #[sv T] 9)) c1
      have HO2 := Lib.hid (own_alloc HO1.out (.cells #[sv T] 9))
      go_simp
      refine hK9 _ _ ?_
      clear hK9 K9
      try simp only [Act.put, List.setIfInBounds_toArray, List.set_cons_zero, List.set_cons_succ]
      refine wpAnyIn_ready (rs := [4]) (by kernel_rfl) (by simp) ?_
      refine AllReadyIn.cons (o := ⟨some 15, _, _, _, _, _⟩) rfl (fun K9 hK9 => ?_) AllReadyIn.nil
      refine stepIn_append (by kernel_rfl) _ _ 31 rfl w.heap.size 9 i0 (.string ⟨#[]⟩) 1 16 Try.underlying31 hi0 hz0 hz1 hz2 rfl (by decide) v pre.length (TX pre) (by rfl) HO2.out ⟨v1.heap.size, 0, none⟩ 1 1 [sv T] (by rfl) rfl (news_new v1 [sv T] 9) (by simp [Value.oneCell']) (by unfold maxLen; have := HLN.out; omega) (by have := HLN.out; omega) (by simp; omega) ?_
      intro v6 w6 hown6 hgr6 hat6
      obtain ⟨g6, d6, rfl⟩ := ownsRow_succ hown6
      have HE := Lib.hid (HEND.out v1 _ w6 hb7 hown6 hgr6 hat6)
      have c6 := HE.out.1
      have f6 := HE.out.2.1
      clear hown6 hgr6 hat6
      refine hK9 _ _ ?_
      clear hK9 K9
      try simp only [Act.put, List.setIfInBounds_toArray, List.set_cons_zero, List.set_cons_succ]
      refine wpAnyIn_ready (rs := [5]) (by kernel_rfl) (by simp) ?_
      refine AllReadyIn.cons (o := ⟨none, _, _, _, _, _⟩) rfl (fun K9 hK9 => ?_) AllReadyIn.nil
      go_simp
      refine hK9 _ _ ?_
      clear hK9 K9
      try simp only [Act.put]
      refine wpAnyIn_done (by kernel_rfl) ?_ _
      exact HE.out.2.2
    refine AllReadyIn.cons (o := ⟨some 13, _, _, _, _, _⟩) rfl (fun K9 hK9 => ?_) AllReadyIn.nil
    go_simp
    refine ⟨trivial, ?_⟩
    refine (CallsIn.inRound l9 (callsIn_wide.2 (HTO.out _))).mono ?_
    rintro e v1 ⟨rfl, hb7⟩
    have c1 := cell_later hb7 c0
    have HO1 := Lib.hid (own_later HO0.out hb7)
    have z1 : V'.heap.size ≤ v1.heap.size := hb7.size
    refine hK9 _ _ ?_
    clear hK9 K9
    try simp only [Act.put, List.setIfInBounds_toArray, List.set_cons_zero, List.set_cons_succ]
    refine wpAnyIn_ready (rs := [0, 3]) (by kernel_rfl) (by simp) ?_
    refine AllReadyIn.cons (o := ⟨some 11, _, _, _, _, _⟩) rfl (fun K9 hK9 => ?_) ?_
    · skip
      go_simp
      refine hK9 _ _ ?_
      clear hK9 K9
      try simp only [Act.put, List.setIfInBounds_toArray, List.set_cons_zero, List.set_cons_succ]
      refine wpAnyIn_ready (rs := [3]) (by kernel_rfl) (by simp) ?_
      refine AllReadyIn.cons (o := ⟨some 14, _, _, _, _, _⟩) rfl (fun K9 hK9 => ?_) AllReadyIn.nil
      have c2 := cell_later (ba (Below.refl v1.heap.size v1) (.cells #[sv T] 9)) c1
      have HO2 := Lib.hid (own_alloc HO1.out (.cells #[sv T] 9))
      go_simp
      refine hK9 _ _ ?_
      clear hK9 K9
      try simp only [Act.put, List.setIfInBounds_toArray, List.set_cons_zero, List.set_cons_succ]
      refine wpAnyIn_ready (rs := [4]) (by kernel_rfl) (by simp) ?_
      refine AllReadyIn.cons (o := ⟨some 15, _, _, _, _, _⟩) rfl (fun K9 hK9 => ?_) AllReadyIn.nil
      refine stepIn_append (by kernel_rfl) _ _ 31 rfl w.heap.size 9 i0 (.string ⟨#[]⟩) 1 16 Try.underlying31 hi0 hz0 hz1 hz2 rfl (by decide) v pre.length (TX pre) (by rfl) HO2.out ⟨v1.heap.size, 0, none⟩ 1 1 [sv T] (by rfl) rfl (news_new v1 [sv T] 9) (by simp [Value.oneCell']) (by unfold maxLen; have := HLN.out; omega) (by have := HLN.out; omega) (by simp; omega) ?_
      intro v6 w6 hown6 hgr6 hat6
      obtain ⟨g6, d6, rfl⟩ := ownsRow_succ hown6
      have HE := Lib.hid (HEND.out v1 _ w6 hb7 hown6 hgr6 hat6)
      have c6 := HE.out.1
      have f6 := HE.out.2.1
      clear hown6 hgr6 hat6
      refine hK9 _ _ ?_
      clear hK9 K9
      try simp only [Act.put, List.setIfInBounds_toArray, List.set_cons_zero, List.set_cons_succ]
      refine wpAnyIn_ready (rs := [5]) (by kernel_rfl) (by simp) ?_
      refine AllReadyIn.cons (o := ⟨none, _, _, _, _, _⟩) rfl (fun K9 hK9 => ?_) AllReadyIn.nil
      go_simp
      refine hK9 _ _ ?_
      clear hK9 K9
      try simp only [Act.put]
      refine wpAnyIn_done (by kernel_rfl) ?_ _
      exact HE.out.2.2
    refine AllReadyIn.cons (o := ⟨some 14, _, _, _, _, _⟩) rfl (fun K9 hK9 => ?_) AllReadyIn.nil
    have c2 := cell_later (ba (Below.refl v1.heap.size v1) (.cells #[sv T] 9)) c1
    have HO2 := Lib.hid (own_alloc HO1.out (.cells #[sv T] 9))
    go_simp
    refine hK9 _ _ ?_
    clear hK9 K9
    try simp only [Act.put, List.setIfInBounds_toArray, List.set_cons_zero, List.set_cons_succ]
    refine wpAnyIn_ready (rs := [0]) (by kernel_rfl) (by simp) ?_
    refine AllReadyIn.cons (o := ⟨some 11, _, _, _, _, _⟩) rfl (fun K9 hK9 => ?_) AllReadyIn.nil
    go_simp
    refine hK9 _ _ ?_
    clear hK9 K9
    try simp only [Act.put, List.setIfInBounds_toArray, List.set_cons_zero, List.set_cons_succ]
    refine wpAnyIn_ready (rs := [4]) (by kernel_rfl) (by simp) ?_
    refine AllReadyIn.cons (o := ⟨some 15, _, _, _, _, _⟩) rfl (fun K9 hK9 => ?_) AllReadyIn.nil
    refine stepIn_append (by kernel_rfl) _ _ 31 rfl w.heap.size 9 i0 (.string ⟨#[]⟩) 1 16 Try.underlying31 hi0 hz0 hz1 hz2 rfl (by decide) v pre.length (TX pre) (by rfl) HO2.out ⟨v1.heap.size, 0, none⟩ 1 1 [sv T] (by rfl) rfl (news_new v1 [sv T] 9) (by simp [Value.oneCell']) (by unfold maxLen; have := HLN.out; omega) (by have := HLN.out; omega) (by simp; omega) ?_
    intro v6 w6 hown6 hgr6 hat6
    obtain ⟨g6, d6, rfl⟩ := ownsRow_succ hown6
    have HE := Lib.hid (HEND.out v1 _ w6 hb7 hown6 hgr6 hat6)
    have c6 := HE.out.1
    have f6 := HE.out.2.1
    clear hown6 hgr6 hat6
    refine hK9 _ _ ?_
    clear hK9 K9
    try simp only [Act.put, List.setIfInBounds_toArray, List.set_cons_zero, List.set_cons_succ]
    refine wpAnyIn_ready (rs := [5]) (by kernel_rfl) (by simp) ?_
    refine AllReadyIn.cons (o := ⟨none, _, _, _, _, _⟩) rfl (fun K9 hK9 => ?_) AllReadyIn.nil
    go_simp
    refine hK9 _ _ ?_
    clear hK9 K9
    try simp only [Act.put]
    refine wpAnyIn_done (by kernel_rfl) ?_ _
    exact HE.out.2.2
  case done =>
    rintro D Y W hD ⟨v, i1, i2, i3, i4, i5, i6⟩ hbY hYD hdf
    obtain ⟨A, c, rfl, _⟩ := own_form i2
    have c0 : W.cell? ⟨w.heap.size, 0, none⟩ = some (.slice A (blocksN h t).length c) := i1.cell 0
    have HF : Hid (SR (W.putObj D (.deferred none)) A (blocksL h t)) := Lib.hid (by
      have h1 := own_kept (W' := W.putObj D (.deferred none)) i2 (fun k hk => World.putObj_heap_other (fun e => (i3 k hk).1 (e ▸ hYD)))
      have e : TX (blocksN h t) = (blocksL h t).map sv := by simp [TX, blocksL]
      rw [e] at h1
      exact own_SR' h1 (by simp [blocksL]))
    have HB : Hid (Below w.heap.size w (W.putObj D (.deferred none))) := Lib.hid (i6.trans (belowK_b (w := w) (Nat.le_refl _) _ D _ _ (by omega) hdf rfl rfl))
    obtain ⟨n9, hn9⟩ : ∃ n9, (blocksN h t).length = n9 := ⟨_, rfl⟩
    rw [hn9] at c0
    have HN9 := Lib.hid hn9
    clear hn9
    clear i1 i2 i3 i4 i5 i6 hbY hYD
    gi_wp2
    refine ⟨by simp, .inl ⟨_, _, rfl, run_takeDeferred hdf, ?_⟩⟩
    refine ⟨.slice A n9 c, by kernel_rfl, A, c, by rw [HN9.out], HF.out, HB.out⟩
end Go.Proofs.Ytlfghagidajpeaa
