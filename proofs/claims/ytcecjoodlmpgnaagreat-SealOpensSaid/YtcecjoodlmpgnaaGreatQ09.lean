/- Texts of this seat, one behind the other: GIn, GSum, GBlksM, GRHigh. -/
import Derived.Maps.AppendAt
import Derived.Test.YtcecjoodlmpgnaaGreatQ04
import Derived.Test.YtcecjoodlmpgnaaGreatQ07
import Derived.Test.YtcecjoodlmpgnaaGreatQ08
/- Steps of a region that draws its order, inside a fence: a row loaded, a row stored. Nothing of any function. -/
namespace Go.Proofs.YtcecjoodlmpgnaaGreat
open Go.RowKit Go.Shelf

theorem stepIn_load {F : Fence} {n : Nat} {P : Program} {ops : Array Oper} {a : Act} {w : World} {K : Act → World → Prop} {Q : Exit → Act → World → Prop} {o : Oper} (hw : Region.wanted o (yielded ops a.tmps) = true) (ty : TypeId) (x : Operand) (ho : o.op = .load ty x)
    (g : Nat) (hx : a.eval x = .pointer (some ⟨g, 0, none⟩)) (t : TypeId) (cs : Array Value) (fr : Nat × Nat) (d : TypeDesc) (hg : w.heap[g]? = some (.cells cs t fr))
    (hu : P.underlying ty = some d) (hd : (match d with | .struct _ | .array _ _ => true | _ => false) = true) (hi : (P.info? ty).map (·.size) = some cs.size)
    (h : K (a.put o.dst (.agg cs)) w) : if Region.wanted o (yielded ops a.tmps) = true then Oper.wpIn F n P o a w K Q else (∀ f, o.about P w a.eval = some f → F.fn f) ∧ K (a.put o.dst undef) w := by
  rw [if_pos hw]
  unfold Oper.wpIn
  refine ⟨?_, ?_⟩
  · simp [Oper.about, ho]
  · rw [Oper.semAt_plain F _ _ (by rw [ho]; intro c hc'; cases hc')]
    simp only [execOp, ho, hx, Instr.loadAt, Instr.sureAddr, Sem.run_bind, Sem.run_pure, Result.andThen_ok, run_loadVar_row w g t ty cs fr d hg hu hd hi]
    exact h
theorem stepIn_store {F : Fence} {n : Nat} {P : Program} {ops : Array Oper} {a : Act} {w : World} {K : Act → World → Prop} {Q : Exit → Act → World → Prop} {o : Oper} (hw : Region.wanted o (yielded ops a.tmps) = true) (ty : TypeId) (x y : Operand) (ho : o.op = .store ty x y)
    (b off : Nat) (cells : Array Value) (hx : a.eval x = .pointer (some ⟨b, off, none⟩)) (hy : a.eval y = .agg cells)
    (ht : w.there b off cells.size) (hi : (P.info? ty).map (·.size) = some cells.size) (h1 : cells.all (·.oneCell') = true)
    (h : K (a.put o.dst undef) (w.setCells b off cells.toList)) : if Region.wanted o (yielded ops a.tmps) = true then Oper.wpIn F n P o a w K Q else (∀ f, o.about P w a.eval = some f → F.fn f) ∧ K (a.put o.dst undef) w := by
  rw [if_pos hw]
  unfold Oper.wpIn
  refine ⟨?_, ?_⟩
  · simp [Oper.about, ho]
  · rw [Oper.semAt_plain F _ _ (by rw [ho]; intro c hc'; cases hc')]
    simp only [execOp, ho, hx, hy, Instr.storeAt, Instr.sureAddr, Sem.run_bind, Sem.run_pure, Result.andThen_ok, run_storeVar_mid w b off ty cells ht hi h1]
    exact h
theorem stepIn_append {F : Fence} {nF : Nat} {P : Program} {ops : Array Oper} {a : Act} {w : World} {K : Act → World → Prop} {Q : Exit → Act → World → Prop} {o : Oper} (hw : Region.wanted o (yielded ops a.tmps) = true) (s x : Operand) (t : TypeId)
    (ho : o.op = .call { callee := .builtin .append, args := #[s, x], argTypes := #[t, t] })
    (base : Nat) (e : TypeId) (i : TypeInfo) (z : Value) (size bytes : Nat) (ht : P.underlying t = some (.slice e)) (hi : P.info? e = some i) (hz : i.zero = some z)
    (hsize : i.size = size) (hby : i.bytes = bytes) (hzs : z.cells.size = size) (hsz : 0 < size)
    (v : Value) (n : Nat) (xs : List Value) (hs : a.eval s = v) (hown : w.ownsRow base e size v n xs)
    (ad : Addr) (m c : Nat) (news : List Value) (hx : a.eval x = .slice (some ad) m c) (hl : news.length = m * size) (hnews : ∀ j u, news[j]? = some u → w.cell? (ad.add j) = some u) (h1 : ∀ u ∈ news, u.oneCell' = true)
    (h63 : n + m ≤ maxLen) (hbytes : (n + m) * bytes ≤ 140737488355328) (hbase : base ≤ w.heap.size)
    (h : ∀ v' w', w'.ownsRow base e size v' (n + m) (xs ++ news) → w.grownBy w' v.ownBlock → (v'.ownBlock = v.ownBlock ∨ v'.ownBlock = some w.heap.size) → K (a.put o.dst v') w') :
    if Region.wanted o (yielded ops a.tmps) = true then Oper.wpIn F nF P o a w K Q else (∀ f, o.about P w a.eval = some f → F.fn f) ∧ K (a.put o.dst undef) w := by
  rw [if_pos hw]
  obtain ⟨v', w', hr, h2, h3, h4, h5⟩ := run_append_own_at (P := P) w base t o.type e i z size bytes ht hi hz hsize hby hzs hsz v n xs hown ad m c news hl hnews h1 h63 hbytes hbase
  unfold Oper.wpIn
  refine ⟨by simp [Oper.about, ho, resolve, Target.leads, Sem.run_pure], ?_⟩
  rw [Oper.semAt_plain F _ _ (by rw [ho]; intro c hc'; cases hc')]
  simp [execOp, ho, resolve, invoke, builtin, hs, hx, hr, Result.andThen]
  exact h v' w' h2 h3 h5
end Go.Proofs.YtcecjoodlmpgnaaGreat
/- The contract of Sum. -/
namespace Go.Proofs.YtcecjoodlmpgnaaGreat
open Go.RowKit Go.Shelf
attribute [local go_sem] Oper.semAt_some

/-- The sum of blocks by a block. -/
def sumN (H : Nat) (l : List Nat) : Nat := l.foldl (fun s x => gm (s ^^^ x) H) 0
theorem sumN_more (H : Nat) (l : List Nat) (x : Nat) : sumN H (l ++ [x]) = gm (sumN H l ^^^ x) H := by simp [sumN]
def sumL (hb h t : List UInt8) : List UInt8 := nb (sumN (bn hb) (blocksN h t))
theorem sumL_len (hb h t : List UInt8) : (sumL hb h t).length = 16 := nb_len _
set_option maxHeartbeats 1000000 in
theorem blocks_any (h t : List UInt8) (w : World) :
    Calls Tryz.prog 69 #[.string ⟨h.toArray⟩, .string ⟨t.toArray⟩] w fun e w' => e = .returned (.func (.func 95) #[] #[.pointer (some ⟨w.heap.size, 0, none⟩), .pointer (some ⟨w.heap.size + 1, 0, none⟩)]) ∧ w' = (w.alloc (.cells #[.string ⟨h.toArray⟩] 9)).alloc (.cells #[.string ⟨t.toArray⟩] 9) := by
  go_enter Tryz.func69, Tryz.ntmps69
  go_wp2
  go_ret
  exact ⟨rfl, rfl⟩

/-- Between two rounds. -/
def SumI (H : Nat) (w : World) (g gb : Nat) (pre : List Nat) (Y : Nat → Prop) (V : World) : Prop :=
  Blk V g 109 (Pol (sumN H pre)) ∧ Blk V gb 109 (Pol H) ∧ ¬ Y g ∧ ¬ Y gb ∧ (∀ k, Y k → w.heap.size ≤ k) ∧ Below w.heap.size w V
theorem SumI.ab (H : Nat) (w : World) (g gb : Nat) : Ab (SumI H w g gb) := by
  rintro s X V V' ⟨h1, h2, h3, h4, h5, h6⟩ hgr
  refine ⟨(hgr.block _ h1.lt h3).trans h1, (hgr.block _ h2.lt h4).trans h2, ?_, ?_, ?_, ?_⟩
  · rintro (h | ⟨h, _⟩)
    · exact h3 h
    · have := h1.lt; omega
  · rintro (h | ⟨h, _⟩)
    · exact h4 h
    · have := h2.lt; omega
  · rintro k (h | ⟨h, _⟩)
    · exact h5 k h
    · have := h6.size; omega
  · exact ⟨hgr.os.trans h6.os, hgr.tape.trans h6.tape, hgr.output.trans h6.output, Nat.le_trans h6.size hgr.size, fun k hk => (hgr.block k (Nat.lt_of_lt_of_le hk h6.size) (fun hx => by have := h5 k hx; omega)).trans (h6.block k hk)⟩

set_option maxRecDepth 100000 in
set_option maxHeartbeats 8000000 in
theorem sum_yes (hb h t : List UInt8) (w : World) (h16 : hb.length = 16) (hh : h.length ≤ 80) (ht : t.length ≤ 80) :
    Calls Tryz.prog 45 #[.string ⟨hb.toArray⟩, .string ⟨h.toArray⟩, .string ⟨t.toArray⟩] w fun e w' => e = .returned (.tuple #[.string ⟨(sumL hb h t).toArray⟩, .int .i64 0]) ∧ Below w.heap.size w w' := by
  refine (callsIn_wide (n := 20)).1 ?_
  have H1 := Lib.hid (fun W => isBlock_any hb W)
  rw [h16] at H1
  have H3 := Lib.hid (fun W => polynomialOf_any hb 16 W h16 (Nat.le_refl _))
  have HBL := bn_lt hb
  have HTO := Lib.hid (fun W => gtold_any (sumN (bn hb) (blocksN h t)) W)
  have HE : Hid (nb (sumN (bn hb) (blocksN h t)) = sumL hb h t) := Lib.hid rfl
  rw [HE.out] at HTO
  generalize sumL hb h t = E at HTO ⊢
  generalize bn hb = H at H3 HBL HTO
  have HBH := Lib.hid HBL
  clear HE HBL h16
  refine callsIn_of_wp_marks Tryz.func45 rfl trivial ?_ rfl
  simp only [Tryz.ntmps45, List.size_toArray, List.length_cons, List.length_nil, Nat.reduceAdd, Nat.reduceSub, Array.replicate_succ, Array.replicate_zero, List.push_toArray, List.append_toArray, List.nil_append, List.cons_append]
  gi_wp2_with fail
  refine ⟨trivial, ?_⟩
  refine (callsIn_wide.2 (H1.out _)).mono ?_
  rintro e w' ⟨rfl, rfl⟩
  gi_wp2_with fail
  refine ⟨trivial, ?_⟩
  refine (callsIn_wide.2 (H3.out _)).mono ?_
  rintro e wa ⟨rfl, hba⟩
  have eg : ∀ args w, (callFunc 95 args).run Tryz.prog w = .ok (.enter 95 args) w := enters_of Tryz.func95 (by kernel_rfl) rfl
  have bG0 : Blk wa w.heap.size 109 #[.int .u64 0, .int .u64 0] := (Blk.new w _ _).below hba
  have hB0 := bt (ba (Below.refl w.heap.size w) (.cells #[.int .u64 0, .int .u64 0] 109)) hba
  have zA : w.heap.size < wa.heap.size := bG0.lt
  clear hba
  gi_wp2_with fail
  refine ⟨trivial, ?_⟩
  refine (callsIn_wide.2 (blocks_any h t _)).mono ?_
  rintro e w' ⟨rfl, rfl⟩
  gi_wp2
  generalize hW0 : World.alloc (World.alloc (World.alloc wa _) _) _ = W0
  have z0 : W0.heap.size = wa.heap.size + 3 := by rw [← hW0]; simp
  have hbx : Below wa.heap.size wa W0 := by rw [← hW0]; exact ba (ba (ba (Below.refl _ _) _) _) _
  have bG : Blk W0 w.heap.size 109 (Pol (sumN H [])) := by
    rw [show Pol (sumN H []) = #[.int .u64 0, .int .u64 0] by unfold Pol sumN; rw [show List.foldl (fun s x => gm (s ^^^ x) H) 0 [] = 0 from rfl, w_nil.1, w_nil.2]; rfl]
    exact bG0.below hbx
  have bH : Blk W0 wa.heap.size 109 (Pol H) := by rw [← hW0]; exact ((Blk.new wa _ _).alloc _).alloc _
  have b1 : Blk W0 (wa.heap.size + 1) 9 #[.string ⟨h.toArray⟩] := by rw [← hW0]; exact (Blk.newAt (by simp) _ _).alloc _
  have b2 : Blk W0 (wa.heap.size + 1 + 1) 9 #[.string ⟨t.toArray⟩] := by rw [← hW0]; exact Blk.newAt (by simp) _ _
  have hB1 : Below w.heap.size w W0 := bt hB0 hbx
  clear hW0 hbx hB0 bG0
  refine range_frame (n := 20) (by omega) (gf := 95) (lb := #[.pointer (some ⟨wa.heap.size + 1, 0, none⟩), .pointer (some ⟨wa.heap.size + 1 + 1, 0, none⟩)]) rfl eg (enc := fun N => .agg (Pol N)) (zs := blocksN h t) (X0 := fun k => k = wa.heap.size + 1 ∨ k = wa.heap.size + 1 + 1) (w0 := W0) (blocks_hands 19 (by omega) _ _ h t W0 hh ht b1 b2) (fun k hk => ⟨by omega, rfl⟩) (SumI H w w.heap.size wa.heap.size) (SumI.ab H w _ _) ⟨bG, bH, by omega, by omega, fun k hk => by omega, hB1⟩
    (fun x a' V => ∃ Bp, Blk V Bp 109 (Pol x) ∧ a' = { tmps := #[.string ⟨hb.toArray⟩, .string ⟨h.toArray⟩, .string ⟨t.toArray⟩, undef, undef, undef, .string ⟨#[]⟩, .int .i64 0, .pointer (some ⟨w.heap.size, 0, none⟩), .pointer (some ⟨wa.heap.size, 0, none⟩), .pointer (some ⟨Bp, 0, none⟩), .string ⟨hb.toArray⟩, .bool true, .bool false, .string ⟨hb.toArray⟩, .agg (Pol H), .string ⟨h.toArray⟩, .string ⟨t.toArray⟩, .func (.func 95) #[] #[.pointer (some ⟨wa.heap.size + 1, 0, none⟩), .pointer (some ⟨wa.heap.size + 1 + 1, 0, none⟩)], .agg (Pol x), undef, undef, undef, undef, undef, undef, undef], defers := [] })
    (fun x a' V' k o o' hs hl ho hc => by
      obtain ⟨Bp, h1, h2⟩ := hs
      refine ⟨Bp, (World.putObj_heap_other (fun e9 => ?_)).trans h1, h2⟩
      subst e9
      rw [show V'.heap[Bp]? = _ from h1] at ho
      cases ho
      cases hc)
    ?assign ?body ?done
  case assign =>
    rintro l9 pre x Y V' K hI hbY _ _ hK
    have HI2 : Hid (SumI H w w.heap.size wa.heap.size pre Y (V'.alloc (.cells (Pol x) 109))) := Lib.hid ⟨hI.1.alloc _, hI.2.1.alloc _, hI.2.2.1, hI.2.2.2.1, hI.2.2.2.2.1, ba hI.2.2.2.2.2 _⟩
    have HKP : Hid (Keep Y V' (V'.alloc (.cells (Pol x) 109))) := Lib.hid (Keep.of_below (ba (Below.refl _ _) _) hbY)
    have HBP := Lib.hid (Blk.new V' 109 (Pol x))
    clear hI hbY
    gi_wp2
    exact hK _ _ HI2.out HKP.out ⟨V'.heap.size, HBP.out, rfl⟩
  case body =>
    rintro l9 pre x a' Y V' hl9 ⟨i1, i2, i3, i4, i5, i6⟩ hbY ⟨Bp, hbp, rfl⟩ hpre
    have hmx : Tryz.prog.follows .mixedOrders = true := by kernel_rfl
    have HPL := Lib.hid (fun V => plus_any (sumN H pre) x V)
    have HTM := Lib.hid (fun V => times_any (sumN H pre ^^^ x) H V HBH.out)
    have HSM : Hid (gm (sumN H pre ^^^ x) H = sumN H (pre ++ [x])) := Lib.hid (sumN_more H pre x).symm
    rw [HSM.out] at HTM
    generalize sumN H pre ^^^ x = q at HPL HTM
    have J1 : Hid (Blk V'.drew w.heap.size 109 (Pol (sumN H pre))) := Lib.hid i1
    have J2 : Hid (Blk V'.drew wa.heap.size 109 (Pol H)) := Lib.hid i2
    have JB : Hid (Blk V'.drew Bp 109 (Pol x)) := Lib.hid hbp
    have HEND : Hid (∀ v1 v2 : World, Below V'.drew.heap.size V'.drew v1 → Below v1.heap.size v1 v2 → Blk v2 w.heap.size 109 (Pol (sumN H pre)) ∧ SumI H w w.heap.size wa.heap.size (pre ++ [x]) Y (v2.setCells w.heap.size 0 (Pol (sumN H (pre ++ [x]))).toList) ∧ Keep Y V' (v2.setCells w.heap.size 0 (Pol (sumN H (pre ++ [x]))).toList)) := Lib.hid (fun v1 v2 h1 h2 => by
      have hbb : Below V'.heap.size V' v2 := bt (bt (Below.refl V'.heap.size V').drew h1) h2
      have g1 := i1.below hbb
      have g2 := i2.below hbb
      refine ⟨g1, ⟨g1.whole _ rfl, g2.far_ (by omega) 0 _, i3, i4, i5, bw (bt i6 hbb) (Nat.le_refl _) 0 _⟩, ?_, fun k hk => ?_⟩
      · rw [size_setCells]; exact hbb.size
      · have hne : k ≠ w.heap.size := fun e => i3 (e ▸ hk)
        exact (setCells_heap _ _ _ _ _ hne).trans (hbb.block k (hbY k hk)))
    generalize sumN H pre = s0 at HPL J1 HEND
    clear i1 i2 i3 i4 i5 i6 hbp hbY HSM
    gi_wp2
    refine wpIn_region_any (by assumption) ?_
    change wpAnyIn _ _ _ _ _ _ _ _ _ (World.drew _)
    refine wpAnyIn_ready (rs := [0, 1, 3]) (by kernel_rfl) (by simp) ?_
    refine AllReadyIn.cons (o := ⟨some 20, _, _, _, _, _⟩) rfl (fun K9 hK9 => ?_) ?_
    · skip
      refine stepIn_load (by kernel_rfl) _ _ rfl _ rfl _ _ _ _ J1.out Tryz.underlying109 rfl (plen _) ?_
      refine hK9 _ _ ?_
      clear hK9 K9
      try simp only [Act.put, List.setIfInBounds_toArray, List.set_cons_zero, List.set_cons_succ]
      refine wpAnyIn_ready (rs := [1, 3]) (by kernel_rfl) (by simp) ?_
      refine AllReadyIn.cons (o := ⟨some 21, _, _, _, _, _⟩) rfl (fun K9 hK9 => ?_) ?_
      · skip
        refine stepIn_load (by kernel_rfl) _ _ rfl _ rfl _ _ _ _ JB.out Tryz.underlying109 rfl (plen _) ?_
        refine hK9 _ _ ?_
        clear hK9 K9
        try simp only [Act.put, List.setIfInBounds_toArray, List.set_cons_zero, List.set_cons_succ]
        refine wpAnyIn_ready (rs := [2, 3]) (by kernel_rfl) (by simp) ?_
        refine AllReadyIn.cons (o := ⟨some 22, _, _, _, _, _⟩) rfl (fun K9 hK9 => ?_) ?_
        · skip
          go_simp
          refine ⟨trivial, ?_⟩
          refine (CallsIn.inRound l9 (callsIn_wide.2 (HPL.out _))).mono ?_
          rintro e v1 ⟨rfl, hb7⟩
          have K2 := Lib.hid (J2.out.below hb7)
          refine hK9 _ _ ?_
          clear hK9 K9
          try simp only [Act.put, List.setIfInBounds_toArray, List.set_cons_zero, List.set_cons_succ]
          refine wpAnyIn_ready (rs := [3]) (by kernel_rfl) (by simp) ?_
          refine AllReadyIn.cons (o := ⟨some 23, _, _, _, _, _⟩) rfl (fun K9 hK9 => ?_) AllReadyIn.nil
          first | (refine stepIn_load (by kernel_rfl) _ _ rfl _ rfl _ _ _ _ K2.out Tryz.underlying109 rfl (plen _) ?_) | (refine stepIn_load (by kernel_rfl) _ _ rfl _ rfl _ _ _ _ J2.out Tryz.underlying109 rfl (plen _) ?_)
          refine hK9 _ _ ?_
          clear hK9 K9
          try simp only [Act.put, List.setIfInBounds_toArray, List.set_cons_zero, List.set_cons_succ]
          refine wpAnyIn_ready (rs := [4]) (by kernel_rfl) (by simp) ?_
          refine AllReadyIn.cons (o := ⟨some 24, _, _, _, _, _⟩) rfl (fun K9 hK9 => ?_) AllReadyIn.nil
          go_simp
          refine ⟨trivial, ?_⟩
          refine (CallsIn.inRound l9 (callsIn_wide.2 (HTM.out _))).mono ?_
          rintro e v2 ⟨rfl, hb8⟩
          have HE := Lib.hid (HEND.out _ _ hb7 hb8)
          refine hK9 _ _ ?_
          clear hK9 K9
          try simp only [Act.put, List.setIfInBounds_toArray, List.set_cons_zero, List.set_cons_succ]
          refine wpAnyIn_ready (rs := [5]) (by kernel_rfl) (by simp) ?_
          refine AllReadyIn.cons (o := ⟨none, _, _, _, _, _⟩) rfl (fun K9 hK9 => ?_) AllReadyIn.nil
          refine stepIn_store (by kernel_rfl) _ _ _ rfl w.heap.size 0 (Pol (sumN H (pre ++ [x]))) rfl rfl (HE.out.1.there (by simp)) (plen _) (by kernel_rfl) ?_
          refine hK9 _ _ ?_
          clear hK9 K9
          try simp only [Act.put]
          refine wpAnyIn_done (by kernel_rfl) ?_ _
          exact HE.out.2
        refine AllReadyIn.cons (o := ⟨some 23, _, _, _, _, _⟩) rfl (fun K9 hK9 => ?_) AllReadyIn.nil
        first | (refine stepIn_load (by kernel_rfl) _ _ rfl _ rfl _ _ _ _ K2.out Tryz.underlying109 rfl (plen _) ?_) | (refine stepIn_load (by kernel_rfl) _ _ rfl _ rfl _ _ _ _ J2.out Tryz.underlying109 rfl (plen _) ?_)
        refine hK9 _ _ ?_
        clear hK9 K9
        try simp only [Act.put, List.setIfInBounds_toArray, List.set_cons_zero, List.set_cons_succ]
        refine wpAnyIn_ready (rs := [2]) (by kernel_rfl) (by simp) ?_
        refine AllReadyIn.cons (o := ⟨some 22, _, _, _, _, _⟩) rfl (fun K9 hK9 => ?_) AllReadyIn.nil
        go_simp
        refine ⟨trivial, ?_⟩
        refine (CallsIn.inRound l9 (callsIn_wide.2 (HPL.out _))).mono ?_
        rintro e v1 ⟨rfl, hb7⟩
        have K2 := Lib.hid (J2.out.below hb7)
        refine hK9 _ _ ?_
        clear hK9 K9
        try simp only [Act.put, List.setIfInBounds_toArray, List.set_cons_zero, List.set_cons_succ]
        refine wpAnyIn_ready (rs := [4]) (by kernel_rfl) (by simp) ?_
        refine AllReadyIn.cons (o := ⟨some 24, _, _, _, _, _⟩) rfl (fun K9 hK9 => ?_) AllReadyIn.nil
        go_simp
        refine ⟨trivial, ?_⟩
        refine (CallsIn.inRound l9 (callsIn_wide.2 (HTM.out _))).mono ?_
        rintro e v2 ⟨rfl, hb8⟩
        have HE := Lib.hid (HEND.out _ _ hb7 hb8)
        refine hK9 _ _ ?_
        clear hK9 K9
        try simp only [Act.put, List.setIfInBounds_toArray, List.set_cons_zero, List.set_cons_succ]
        refine wpAnyIn_ready (rs := [5]) (by kernel_rfl) (by simp) ?_
        refine AllReadyIn.cons (o := ⟨none, _, _, _, _, _⟩) rfl (fun K9 hK9 => ?_) AllReadyIn.nil
        refine stepIn_store (by kernel_rfl) _ _ _ rfl w.heap.size 0 (Pol (sumN H (pre ++ [x]))) rfl rfl (HE.out.1.there (by simp)) (plen _) (by kernel_rfl) ?_
        refine hK9 _ _ ?_
        clear hK9 K9
        try simp only [Act.put]
        refine wpAnyIn_done (by kernel_rfl) ?_ _
        exact HE.out.2
      refine AllReadyIn.cons (o := ⟨some 23, _, _, _, _, _⟩) rfl (fun K9 hK9 => ?_) AllReadyIn.nil
      first | (refine stepIn_load (by kernel_rfl) _ _ rfl _ rfl _ _ _ _ K2.out Tryz.underlying109 rfl (plen _) ?_) | (refine stepIn_load (by kernel_rfl) _ _ rfl _ rfl _ _ _ _ J2.out Tryz.underlying109 rfl (plen _) ?_)
      refine hK9 _ _ ?_
      clear hK9 K9
      try simp only [Act.put, List.setIfInBounds_toArray, List.set_cons_zero, List.set_cons_succ]
      refine wpAnyIn_ready (rs := [1]) (by kernel_rfl) (by simp) ?_
      refine AllReadyIn.cons (o := ⟨some 21, _, _, _, _, _⟩) rfl (fun K9 hK9 => ?_) AllReadyIn.nil
      refine stepIn_load (by kernel_rfl) _ _ rfl _ rfl _ _ _ _ JB.out Tryz.underlying109 rfl (plen _) ?_
      refine hK9 _ _ ?_
      clear hK9 K9
      try simp only [Act.put, List.setIfInBounds_toArray, List.set_cons_zero, List.set_cons_succ]
      refine wpAnyIn_ready (rs := [2]) (by kernel_rfl) (by simp) ?_
      refine AllReadyIn.cons (o := ⟨some 22, _, _, _, _, _⟩) rfl (fun K9 hK9 => ?_) AllReadyIn.nil
      go_simp
      refine ⟨trivial, ?_⟩
      refine (CallsIn.inRound l9 (callsIn_wide.2 (HPL.out _))).mono ?_
      rintro e v1 ⟨rfl, hb7⟩
      have K2 := Lib.hid (J2.out.below hb7)
      refine hK9 _ _ ?_
      clear hK9 K9
      try simp only [Act.put, List.setIfInBounds_toArray, List.set_cons_zero, List.set_cons_succ]
      refine wpAnyIn_ready (rs := [4]) (by kernel_rfl) (by simp) ?_
      refine AllReadyIn.cons (o := ⟨some 24, _, _, _, _, _⟩) rfl (fun K9 hK9 => ?_) AllReadyIn.nil
      go_simp
      refine ⟨trivial, ?_⟩
      refine (CallsIn.inRound l9 (callsIn_wide.2 (HTM.out _))).mono ?_
      rintro e v2 ⟨rfl, hb8⟩
      have HE := Lib.hid (HEND.out _ _ hb7 hb8)
      refine hK9 _ _ ?_
      clear hK9 K9
      try simp only [Act.put, List.setIfInBounds_toArray, List.set_cons_zero, List.set_cons_succ]
      refine wpAnyIn_ready (rs := [5]) (by kernel_rfl) (by simp) ?_
      refine AllReadyIn.cons (o := ⟨none, _, _, _, _, _⟩) rfl (fun K9 hK9 => ?_) AllReadyIn.nil
      refine stepIn_store (by kernel_rfl) _ _ _ rfl w.heap.size 0 (Pol (sumN H (pre ++ [x]))) rfl rfl (HE.out.1.there (by simp)) (plen _) (by kernel_rfl) ?_
      refine hK9 _ _ ?_
      clear hK9 K9
      try simp only [Act.put]
      refine wpAnyIn_done (by kernel_rfl) ?_ _
      exact HE.out.2
    refine AllReadyIn.cons (o := ⟨some 21, _, _, _, _, _⟩) rfl (fun K9 hK9 => ?_) ?_
    · skip
      refine stepIn_load (by kernel_rfl) _ _ rfl _ rfl _ _ _ _ JB.out Tryz.underlying109 rfl (plen _) ?_
      refine hK9 _ _ ?_
      clear hK9 K9
      try simp only [Act.put, List.setIfInBounds_toArray, List.set_cons_zero, List.set_cons_succ]
      refine wpAnyIn_ready (rs := [0, 3]) (by kernel_rfl) (by simp) ?_
      refine AllReadyIn.cons (o := ⟨some 20, _, _, _, _, _⟩) rfl (fun K9 hK9 => ?_) ?_
      · skip
        refine stepIn_load (by kernel_rfl) _ _ rfl _ rfl _ _ _ _ J1.out Tryz.underlying109 rfl (plen _) ?_
        refine hK9 _ _ ?_
        clear hK9 K9
        try simp only [Act.put, List.setIfInBounds_toArray, List.set_cons_zero, List.set_cons_succ]
        refine wpAnyIn_ready (rs := [2, 3]) (by kernel_rfl) (by simp) ?_
        refine AllReadyIn.cons (o := ⟨some 22, _, _, _, _, _⟩) rfl (fun K9 hK9 => ?_) ?_
        · skip
          go_simp
          refine ⟨trivial, ?_⟩
          refine (CallsIn.inRound l9 (callsIn_wide.2 (HPL.out _))).mono ?_
          rintro e v1 ⟨rfl, hb7⟩
          have K2 := Lib.hid (J2.out.below hb7)
          refine hK9 _ _ ?_
          clear hK9 K9
          try simp only [Act.put, List.setIfInBounds_toArray, List.set_cons_zero, List.set_cons_succ]
          refine wpAnyIn_ready (rs := [3]) (by kernel_rfl) (by simp) ?_
          refine AllReadyIn.cons (o := ⟨some 23, _, _, _, _, _⟩) rfl (fun K9 hK9 => ?_) AllReadyIn.nil
          first | (refine stepIn_load (by kernel_rfl) _ _ rfl _ rfl _ _ _ _ K2.out Tryz.underlying109 rfl (plen _) ?_) | (refine stepIn_load (by kernel_rfl) _ _ rfl _ rfl _ _ _ _ J2.out Tryz.underlying109 rfl (plen _) ?_)
          refine hK9 _ _ ?_
          clear hK9 K9
          try simp only [Act.put, List.setIfInBounds_toArray, List.set_cons_zero, List.set_cons_succ]
          refine wpAnyIn_ready (rs := [4]) (by kernel_rfl) (by simp) ?_
          refine AllReadyIn.cons (o := ⟨some 24, _, _, _, _, _⟩) rfl (fun K9 hK9 => ?_) AllReadyIn.nil
          go_simp
          refine ⟨trivial, ?_⟩
          refine (CallsIn.inRound l9 (callsIn_wide.2 (HTM.out _))).mono ?_
          rintro e v2 ⟨rfl, hb8⟩
          have HE := Lib.hid (HEND.out _ _ hb7 hb8)
          refine hK9 _ _ ?_
          clear hK9 K9
          try simp only [Act.put, List.setIfInBounds_toArray, List.set_cons_zero, List.set_cons_succ]
          refine wpAnyIn_ready (rs := [5]) (by kernel_rfl) (by simp) ?_
          refine AllReadyIn.cons (o := ⟨none, _, _, _, _, _⟩) rfl (fun K9 hK9 => ?_) AllReadyIn.nil
          refine stepIn_store (by kernel_rfl) _ _ _ rfl w.heap.size 0 (Pol (sumN H (pre ++ [x]))) rfl rfl (HE.out.1.there (by simp)) (plen _) (by kernel_rfl) ?_
          refine hK9 _ _ ?_
          clear hK9 K9
          try simp only [Act.put]
          refine wpAnyIn_done (by kernel_rfl) ?_ _
          exact HE.out.2
        refine AllReadyIn.cons (o := ⟨some 23, _, _, _, _, _⟩) rfl (fun K9 hK9 => ?_) AllReadyIn.nil
        first | (refine stepIn_load (by kernel_rfl) _ _ rfl _ rfl _ _ _ _ K2.out Tryz.underlying109 rfl (plen _) ?_) | (refine stepIn_load (by kernel_rfl) _ _ rfl _ rfl _ _ _ _ J2.out Tryz.underlying109 rfl (plen _) ?_)
        refine hK9 _ _ ?_
        clear hK9 K9
        try simp only [Act.put, List.setIfInBounds_toArray, List.set_cons_zero, List.set_cons_succ]
        refine wpAnyIn_ready (rs := [2]) (by kernel_rfl) (by simp) ?_
        refine AllReadyIn.cons (o := ⟨some 22, _, _, _, _, _⟩) rfl (fun K9 hK9 => ?_) AllReadyIn.nil
        go_simp
        refine ⟨trivial, ?_⟩
        refine (CallsIn.inRound l9 (callsIn_wide.2 (HPL.out _))).mono ?_
        rintro e v1 ⟨rfl, hb7⟩
        have K2 := Lib.hid (J2.out.below hb7)
        refine hK9 _ _ ?_
        clear hK9 K9
        try simp only [Act.put, List.setIfInBounds_toArray, List.set_cons_zero, List.set_cons_succ]
        refine wpAnyIn_ready (rs := [4]) (by kernel_rfl) (by simp) ?_
        refine AllReadyIn.cons (o := ⟨some 24, _, _, _, _, _⟩) rfl (fun K9 hK9 => ?_) AllReadyIn.nil
        go_simp
        refine ⟨trivial, ?_⟩
        refine (CallsIn.inRound l9 (callsIn_wide.2 (HTM.out _))).mono ?_
        rintro e v2 ⟨rfl, hb8⟩
        have HE := Lib.hid (HEND.out _ _ hb7 hb8)
        refine hK9 _ _ ?_
        clear hK9 K9
        try simp only [Act.put, List.setIfInBounds_toArray, List.set_cons_zero, List.set_cons_succ]
        refine wpAnyIn_ready (rs := [5]) (by kernel_rfl) (by simp) ?_
        refine AllReadyIn.cons (o := ⟨none, _, _, _, _, _⟩) rfl (fun K9 hK9 => ?_) AllReadyIn.nil
        refine stepIn_store (by kernel_rfl) _ _ _ rfl w.heap.size 0 (Pol (sumN H (pre ++ [x]))) rfl rfl (HE.out.1.there (by simp)) (plen _) (by kernel_rfl) ?_
        refine hK9 _ _ ?_
        clear hK9 K9
        try simp only [Act.put]
        refine wpAnyIn_done (by kernel_rfl) ?_ _
        exact HE.out.2
      refine AllReadyIn.cons (o := ⟨some 23, _, _, _, _, _⟩) rfl (fun K9 hK9 => ?_) AllReadyIn.nil
      first | (refine stepIn_load (by kernel_rfl) _ _ rfl _ rfl _ _ _ _ K2.out Tryz.underlying109 rfl (plen _) ?_) | (refine stepIn_load (by kernel_rfl) _ _ rfl _ rfl _ _ _ _ J2.out Tryz.underlying109 rfl (plen _) ?_)
      refine hK9 _ _ ?_
      clear hK9 K9
      try simp only [Act.put, List.setIfInBounds_toArray, List.set_cons_zero, List.set_cons_succ]
      refine wpAnyIn_ready (rs := [0]) (by kernel_rfl) (by simp) ?_
      refine AllReadyIn.cons (o := ⟨some 20, _, _, _, _, _⟩) rfl (fun K9 hK9 => ?_) AllReadyIn.nil
      refine stepIn_load (by kernel_rfl) _ _ rfl _ rfl _ _ _ _ J1.out Tryz.underlying109 rfl (plen _) ?_
      refine hK9 _ _ ?_
      clear hK9 K9
      try simp only [Act.put, List.setIfInBounds_toArray, List.set_cons_zero, List.set_cons_succ]
      refine wpAnyIn_ready (rs := [2]) (by kernel_rfl) (by simp) ?_
      refine AllReadyIn.cons (o := ⟨some 22, _, _, _, _, _⟩) rfl (fun K9 hK9 => ?_) AllReadyIn.nil
      go_simp
      refine ⟨trivial, ?_⟩
      refine (CallsIn.inRound l9 (callsIn_wide.2 (HPL.out _))).mono ?_
      rintro e v1 ⟨rfl, hb7⟩
      have K2 := Lib.hid (J2.out.below hb7)
      refine hK9 _ _ ?_
      clear hK9 K9
      try simp only [Act.put, List.setIfInBounds_toArray, List.set_cons_zero, List.set_cons_succ]
      refine wpAnyIn_ready (rs := [4]) (by kernel_rfl) (by simp) ?_
      refine AllReadyIn.cons (o := ⟨some 24, _, _, _, _, _⟩) rfl (fun K9 hK9 => ?_) AllReadyIn.nil
      go_simp
      refine ⟨trivial, ?_⟩
      refine (CallsIn.inRound l9 (callsIn_wide.2 (HTM.out _))).mono ?_
      rintro e v2 ⟨rfl, hb8⟩
      have HE := Lib.hid (HEND.out _ _ hb7 hb8)
      refine hK9 _ _ ?_
      clear hK9 K9
      try simp only [Act.put, List.setIfInBounds_toArray, List.set_cons_zero, List.set_cons_succ]
      refine wpAnyIn_ready (rs := [5]) (by kernel_rfl) (by simp) ?_
      refine AllReadyIn.cons (o := ⟨none, _, _, _, _, _⟩) rfl (fun K9 hK9 => ?_) AllReadyIn.nil
      refine stepIn_store (by kernel_rfl) _ _ _ rfl w.heap.size 0 (Pol (sumN H (pre ++ [x]))) rfl rfl (HE.out.1.there (by simp)) (plen _) (by kernel_rfl) ?_
      refine hK9 _ _ ?_
      clear hK9 K9
      try simp only [Act.put]
      refine wpAnyIn_done (by kernel_rfl) ?_ _
      exact HE.out.2
    refine AllReadyIn.cons (o := ⟨some 23, _, _, _, _, _⟩) rfl (fun K9 hK9 => ?_) AllReadyIn.nil
    first | (refine stepIn_load (by kernel_rfl) _ _ rfl _ rfl _ _ _ _ K2.out Tryz.underlying109 rfl (plen _) ?_) | (refine stepIn_load (by kernel_rfl) _ _ rfl _ rfl _ _ _ _ J2.out Tryz.underlying109 rfl (plen _) ?_)
    refine hK9 _ _ ?_
    clear hK9 K9
    try simp only [Act.put, List.setIfInBounds_toArray, List.set_cons_zero, List.set_cons_succ]
    refine wpAnyIn_ready (rs := [0, 1]) (by kernel_rfl) (by simp) ?_
    refine AllReadyIn.cons (o := ⟨some 20, _, _, _, _, _⟩) rfl (fun K9 hK9 => ?_) ?_
    · skip
      refine stepIn_load (by kernel_rfl) _ _ rfl _ rfl _ _ _ _ J1.out Tryz.underlying109 rfl (plen _) ?_
      refine hK9 _ _ ?_
      clear hK9 K9
      try simp only [Act.put, List.setIfInBounds_toArray, List.set_cons_zero, List.set_cons_succ]
      refine wpAnyIn_ready (rs := [1]) (by kernel_rfl) (by simp) ?_
      refine AllReadyIn.cons (o := ⟨some 21, _, _, _, _, _⟩) rfl (fun K9 hK9 => ?_) AllReadyIn.nil
      refine stepIn_load (by kernel_rfl) _ _ rfl _ rfl _ _ _ _ JB.out Tryz.underlying109 rfl (plen _) ?_
      refine hK9 _ _ ?_
      clear hK9 K9
      try simp only [Act.put, List.setIfInBounds_toArray, List.set_cons_zero, List.set_cons_succ]
      refine wpAnyIn_ready (rs := [2]) (by kernel_rfl) (by simp) ?_
      refine AllReadyIn.cons (o := ⟨some 22, _, _, _, _, _⟩) rfl (fun K9 hK9 => ?_) AllReadyIn.nil
      go_simp
      refine ⟨trivial, ?_⟩
      refine (CallsIn.inRound l9 (callsIn_wide.2 (HPL.out _))).mono ?_
      rintro e v1 ⟨rfl, hb7⟩
      have K2 := Lib.hid (J2.out.below hb7)
      refine hK9 _ _ ?_
      clear hK9 K9
      try simp only [Act.put, List.setIfInBounds_toArray, List.set_cons_zero, List.set_cons_succ]
      refine wpAnyIn_ready (rs := [4]) (by kernel_rfl) (by simp) ?_
      refine AllReadyIn.cons (o := ⟨some 24, _, _, _, _, _⟩) rfl (fun K9 hK9 => ?_) AllReadyIn.nil
      go_simp
      refine ⟨trivial, ?_⟩
      refine (CallsIn.inRound l9 (callsIn_wide.2 (HTM.out _))).mono ?_
      rintro e v2 ⟨rfl, hb8⟩
      have HE := Lib.hid (HEND.out _ _ hb7 hb8)
      refine hK9 _ _ ?_
      clear hK9 K9
      try simp only [Act.put, List.setIfInBounds_toArray, List.set_cons_zero, List.set_cons_succ]
      refine wpAnyIn_ready (rs := [5]) (by kernel_rfl) (by simp) ?_
      refine AllReadyIn.cons (o := ⟨none, _, _, _, _, _⟩) rfl (fun K9 hK9 => ?_) AllReadyIn.nil
      refine stepIn_store (by kernel_rfl) _ _ _ rfl w.heap.size 0 (Pol (sumN H (pre ++ [x]))) rfl rfl (HE.out.1.there (by simp)) (plen _) (by kernel_rfl) ?_
      refine hK9 _ _ ?_
      clear hK9 K9
      try simp only [Act.put]
      refine wpAnyIn_done (by kernel_rfl) ?_ _
      exact HE.out.2
    refine AllReadyIn.cons (o := ⟨some 21, _, _, _, _, _⟩) rfl (fun K9 hK9 => ?_) AllReadyIn.nil
    refine stepIn_load (by kernel_rfl) _ _ rfl _ rfl _ _ _ _ JB.out Tryz.underlying109 rfl (plen _) ?_
    refine hK9 _ _ ?_
    clear hK9 K9
    try simp only [Act.put, List.setIfInBounds_toArray, List.set_cons_zero, List.set_cons_succ]
    refine wpAnyIn_ready (rs := [0]) (by kernel_rfl) (by simp) ?_
    refine AllReadyIn.cons (o := ⟨some 20, _, _, _, _, _⟩) rfl (fun K9 hK9 => ?_) AllReadyIn.nil
    refine stepIn_load (by kernel_rfl) _ _ rfl _ rfl _ _ _ _ J1.out Tryz.underlying109 rfl (plen _) ?_
    refine hK9 _ _ ?_
    clear hK9 K9
    try simp only [Act.put, List.setIfInBounds_toArray, List.set_cons_zero, List.set_cons_succ]
    refine wpAnyIn_ready (rs := [2]) (by kernel_rfl) (by simp) ?_
    refine AllReadyIn.cons (o := ⟨some 22, _, _, _, _, _⟩) rfl (fun K9 hK9 => ?_) AllReadyIn.nil
    go_simp
    refine ⟨trivial, ?_⟩
    refine (CallsIn.inRound l9 (callsIn_wide.2 (HPL.out _))).mono ?_
    rintro e v1 ⟨rfl, hb7⟩
    have K2 := Lib.hid (J2.out.below hb7)
    refine hK9 _ _ ?_
    clear hK9 K9
    try simp only [Act.put, List.setIfInBounds_toArray, List.set_cons_zero, List.set_cons_succ]
    refine wpAnyIn_ready (rs := [4]) (by kernel_rfl) (by simp) ?_
    refine AllReadyIn.cons (o := ⟨some 24, _, _, _, _, _⟩) rfl (fun K9 hK9 => ?_) AllReadyIn.nil
    go_simp
    refine ⟨trivial, ?_⟩
    refine (CallsIn.inRound l9 (callsIn_wide.2 (HTM.out _))).mono ?_
    rintro e v2 ⟨rfl, hb8⟩
    have HE := Lib.hid (HEND.out _ _ hb7 hb8)
    refine hK9 _ _ ?_
    clear hK9 K9
    try simp only [Act.put, List.setIfInBounds_toArray, List.set_cons_zero, List.set_cons_succ]
    refine wpAnyIn_ready (rs := [5]) (by kernel_rfl) (by simp) ?_
    refine AllReadyIn.cons (o := ⟨none, _, _, _, _, _⟩) rfl (fun K9 hK9 => ?_) AllReadyIn.nil
    refine stepIn_store (by kernel_rfl) _ _ _ rfl w.heap.size 0 (Pol (sumN H (pre ++ [x]))) rfl rfl (HE.out.1.there (by simp)) (plen _) (by kernel_rfl) ?_
    refine hK9 _ _ ?_
    clear hK9 K9
    try simp only [Act.put]
    refine wpAnyIn_done (by kernel_rfl) ?_ _
    exact HE.out.2
  case done =>
    rintro D Y W hD ⟨i1, i2, i3, i4, i5, i6⟩ hbY hYD hdf
    have HS := Lib.hid i1
    have HB := Lib.hid i6
    have HDF := Lib.hid hdf
    have lD := (Array.getElem?_eq_some_iff.1 hdf).1
    clear i1 i2 i3 i4 i5 i6 hdf hbY hYD
    gi_wp2_with (refine gwpListIn_load_row rfl _ _ rfl _ rfl _ _ _ _ HS.out Tryz.underlying109 rfl (plen _) ?_)
    refine ⟨trivial, ?_⟩
    refine (callsIn_wide.2 (HTO.out _)).mono ?_
    rintro e w9 ⟨rfl, hb9⟩
    have hdf9 : w9.heap[D]? = some (.deferred (some [])) := (hb9.block D lD).trans HDF.out
    gi_wp2
    refine ⟨by simp, .inl ⟨_, _, rfl, run_takeDeferred hdf9, ?_⟩⟩
    refine ⟨.tuple #[.string ⟨E.toArray⟩, .int .i64 0], by kernel_rfl, rfl, ?_⟩
    exact (bt HB.out hb9).trans (belowK_b (w := w) (Nat.le_refl _) _ D _ _ (by omega) hdf9 rfl rfl)

set_option maxRecDepth 100000 in
set_option maxHeartbeats 1000000 in
theorem sum_no (hb h t : List UInt8) (w : World) (h16 : ¬ hb.length = 16) :
    Calls Tryz.prog 45 #[.string ⟨hb.toArray⟩, .string ⟨h.toArray⟩, .string ⟨t.toArray⟩] w fun e w' => e = .returned (.tuple #[.string ⟨#[]⟩, .int .i64 4]) ∧ Below w.heap.size w w' := by
  have H1 := Lib.hid (fun W => isBlock_any hb W)
  have hd : decide (hb.length = 16) = false := by simp [h16]
  rw [hd] at H1
  clear h16 hd
  refine (callsIn_wide (n := 20)).1 ?_
  refine callsIn_of_wp_marks Tryz.func45 rfl trivial ?_ rfl
  simp only [Tryz.ntmps45, List.size_toArray, List.length_cons, List.length_nil, Nat.reduceAdd, Nat.reduceSub, Array.replicate_succ, Array.replicate_zero, List.push_toArray, List.append_toArray, List.nil_append, List.cons_append]
  gi_wp2_with fail
  refine ⟨trivial, ?_⟩
  refine (callsIn_wide.2 (H1.out _)).mono ?_
  rintro e w' ⟨rfl, rfl⟩
  gi_wp2
  refine ⟨.tuple #[.string ⟨#[]⟩, .int .i64 4], by kernel_rfl, rfl, Below.refl _ _⟩
end Go.Proofs.YtcecjoodlmpgnaaGreat
/- The blocks of two texts, and what stands between two rounds. -/
namespace Go.Proofs.YtcecjoodlmpgnaaGreat
open Go.RowKit Go.Shelf
attribute [local go_sem] Oper.semAt_some

def blocksL (h t : List UInt8) : List (List UInt8) := (blocksN h t).map nb
theorem own_kept {W W' : World} {base : Nat} {e : TypeId} {size : Nat} {v : Value} {n : Nat} {xs : List Value} (h : W.ownsRow base e size v n xs) (hk : ∀ k, v.ownBlock = some k → W'.heap[k]? = W.heap[k]?) : W'.ownsRow base e size v n xs := by
  obtain ⟨h1, h2⟩ := h
  refine ⟨h1, ?_⟩
  rcases h2 with h2 | ⟨g, cap, cur, hv, hg, hh, r⟩
  · exact .inl h2
  · exact .inr ⟨g, cap, cur, hv, hg, (hk g (by rw [hv]; rfl)).trans hh, r⟩
def TX (l : List Nat) : List Value := l.map fun N => sv (nb N)
theorem TX_more (l : List Nat) (x : Nat) : TX (l ++ [x]) = TX l ++ [sv (nb x)] := by simp [TX]
/-- Between two rounds. -/
def BlkI (w : World) (g : Nat) (pre : List Nat) (Y : Nat → Prop) (V : World) : Prop :=
  ∃ v : Value, Blk V g 116 #[v] ∧ V.ownsRow w.heap.size 9 1 v pre.length (TX pre) ∧ (∀ k, v.ownBlock = some k → ¬ Y k ∧ k ≠ g ∧ k < V.heap.size) ∧ ¬ Y g ∧ (∀ k, Y k → w.heap.size ≤ k) ∧ Below w.heap.size w V
theorem BlkI.ab (w : World) (g : Nat) : Ab (BlkI w g) := by
  rintro s X V V' ⟨v, h1, h2, h3, h4, h5, h6⟩ hgr
  refine ⟨v, (hgr.block _ h1.lt h4).trans h1, own_kept h2 (fun k hk => hgr.block k (h3 k hk).2.2 (h3 k hk).1), fun k hk => ⟨?_, (h3 k hk).2.1, Nat.lt_of_lt_of_le (h3 k hk).2.2 hgr.size⟩, ?_, ?_, ?_⟩
  · rintro (h | ⟨h, _⟩)
    · exact (h3 k hk).1 h
    · have := (h3 k hk).2.2; omega
  · rintro (h | ⟨h, _⟩)
    · exact h4 h
    · have := h1.lt; omega
  · rintro k (h | ⟨h, _⟩)
    · exact h5 k h
    · have := h6.size; omega
  · exact ⟨hgr.os.trans h6.os, hgr.tape.trans h6.tape, hgr.output.trans h6.output, Nat.le_trans h6.size hgr.size, fun k hk => (hgr.block k (Nat.lt_of_lt_of_le hk h6.size) (fun hx => by have := h5 k hx; omega)).trans (h6.block k hk)⟩
theorem BlkI.below {w : World} {g : Nat} {pre : List Nat} {Y : Nat → Prop} {V V' : World} (h : BlkI w g pre Y V) (hb : Below V.heap.size V V') : BlkI w g pre Y V' := by
  obtain ⟨v, h1, h2, h3, h4, h5, h6⟩ := h
  exact ⟨v, h1.below hb, own_later h2 hb, fun k hk => ⟨(h3 k hk).1, (h3 k hk).2.1, Nat.lt_of_lt_of_le (h3 k hk).2.2 hb.size⟩, h4, h5, bt h6 hb⟩
theorem blocksN_len (h t : List UInt8) : (blocksN h t).length = (h.length + 15) / 16 + (t.length + 15) / 16 + 1 := by
  unfold blocksN
  rw [List.length_append, List.length_append, fillC_len, fillC_len]
  rfl
end Go.Proofs.YtcecjoodlmpgnaaGreat
/- The contracts of the reference's high and filled. -/
namespace Go.Proofs.YtcecjoodlmpgnaaGreat
open Go.RowKit

theorem gub_drop {L : List UInt8} {m j : Nat} : ub (L.drop m) j = ub L (m + j) := by simp [ub, List.getD]
theorem nb_any (L : List UInt8) {j : Nat} (h : j < 16) : ub (nb (bn L)) j = ub L j := by
  unfold nb
  rw [ub_tab _ h]
  refine u8_bits fun t ht => ?_
  rw [by8_nat, mkN_at ht, bn_bit L (by omega)]
  unfold co
  rw [show (8 * j + 7 - t) / 8 = j by omega, show 7 - (8 * j + 7 - t) % 8 = t by omega]
/-- So many bytes of a number, the highest first. -/
def beL : Nat → Nat → List UInt8
  | 0, _ => []
  | k + 1, n => UInt8.ofNat (n / 256 ^ k % 256) :: beL k n
theorem beL_len (k n : Nat) : (beL k n).length = k := by
  induction k with
  | zero => rfl
  | succ k ih => rw [beL, List.length_cons, ih]
theorem ub_beL (n : Nat) : ∀ k j, j < k → ub (beL k n) j = UInt8.ofNat (n / 256 ^ (k - 1 - j) % 256) := by
  intro k
  induction k with
  | zero => intro j h; omega
  | succ k ih =>
    intro j h
    cases j with
    | zero => rfl
    | succ j =>
      have h1 : ub (beL (k + 1) n) (j + 1) = ub (beL k n) j := rfl
      rw [h1, ih j (by omega)]
      congr 4
      omega
theorem be_of {a b : Nat} (ha : a < B64) (hb : b < B64) : beL 8 a ++ beL 8 b = nb (ofW a b) := by
  refine list_ext (n := 16) (by rw [List.length_append, beL_len, beL_len]) (nb_len _) fun i hi => ?_
  unfold nb
  rw [ub_tab _ hi]
  apply UInt8.toNat_inj.1
  rw [← wi_byte _ hi]
  by_cases h8 : i < 8
  · have e : ub (beL 8 a ++ beL 8 b) i = ub (beL 8 a) i := by simp [ub, List.getD, List.getElem?_append, beL_len, h8]
    rw [e, ub_beL a 8 i h8, UInt8.toNat_ofNat', show wi (ofW a b) (i / 8) = a by unfold wi; rw [if_pos (by omega)]; exact w0_of b ha, show (256 : Nat) = 2 ^ 8 from rfl, ← Nat.pow_mul, show 8 * (8 - 1 - i) = 56 - i % 8 * 8 by omega, Nat.mod_mod]
  · have e : ub (beL 8 a ++ beL 8 b) i = ub (beL 8 b) (i - 8) := by simp [ub, List.getD, List.getElem?_append, beL_len, h8]
    rw [e, ub_beL b 8 (i - 8) (by omega), UInt8.toNat_ofNat', show wi (ofW a b) (i / 8) = b by unfold wi; rw [if_neg (by omega)]; exact w1_of a hb, show (256 : Nat) = 2 ^ 8 from rfl, ← Nat.pow_mul, show 8 * (8 - 1 - (i - 8)) = 56 - i % 8 * 8 by omega, Nat.mod_mod]
theorem join_text (a b : List UInt8) : (⟨a.toArray⟩ : ByteArray) ++ ⟨b.toArray⟩ = ⟨(a ++ b).toArray⟩ := by
  apply ByteArray.ext
  simp

set_option maxRecDepth 100000 in
set_option maxHeartbeats 2000000 in
theorem high_any (n : Nat) (w : World) (hn : n < 65536) :
    Calls Tryz.prog 106 #[.int .u64 (n : Int)] w fun e w' => e = .returned (.string ⟨(beL 8 n).toArray⟩) ∧ Below w.heap.size w w' := by
  have HJ := Lib.hid join_text
  have HS : Hid (∀ k, beL (k + 1) n = UInt8.ofNat (n / 256 ^ k % 256) :: beL k n) := Lib.hid (fun _ => rfl)
  have H0 : Hid (beL 0 n = []) := Lib.hid rfl
  have HLEN : Hid (∀ k, (beL k n).length = k) := Lib.hid (fun k => beL_len k n)
  generalize hB : (fun k => beL k n) = B
  have hB' : ∀ k, beL k n = B k := fun k => by rw [← hB]
  rw [hB'] at H0
  simp only [hB'] at HS HLEN ⊢
  have HN := Lib.hid hn
  clear hB hB' hn
  go_enter Tryz.func106, Tryz.ntmps106
  go_wp2_with fail
  go_loopw [0, 3, 4] (fun nv ov iv wr => ∃ k q : Nat, k ≤ 8 ∧ iv = .int .i64 k ∧ nv = .int .u64 q ∧ ov = .string ⟨(B k).toArray⟩ ∧ Hid (q = n / 256 ^ k) ∧ Below w.heap.size w wr) (fun _ _ iv _ => 8 - (intOf iv).toNat)
  case atStart => exact ⟨0, n, Nat.zero_le _, rfl, rfl, by rw [H0.out], Lib.hid (by simp), Below.refl _ _⟩
  case round =>
    obtain ⟨k, q, hk, rfl, rfl, rfl, HQ, hb⟩ := hrel
    by_cases hlt : k < 8
    · have hkl : (k : Int) < 8 := by omega
      have HT := Lib.hid (HS.out k)
      rw [← HQ.out] at HT
      obtain ⟨y, hy⟩ : ∃ y, UInt8.ofNat (q % 256) = y := ⟨_, rfl⟩
      rw [hy] at HT
      have hyn : y.toNat = q % 256 := by rw [← hy, UInt8.toNat_ofNat']; omega
      have hw8 : IntKind.u8.wrap ((q : Int) % 256) = ((y.toNat : Nat) : Int) := by rw [IntKind.wrap_u8, hyn]; omega
      have h1b := one_byte y wr
      have hjj := HJ.out [y] (B k)
      rw [show [y] ++ B k = B (k + 1) from HT.out.symm] at hjj
      have HQ2 : Hid (q / 256 = n / 256 ^ (k + 1)) := Lib.hid (by rw [HQ.out, Nat.div_div_eq_div_mul, Nat.pow_succ])
      have HB2 := Lib.hid (ba hb (.cells #[uv y] 5))
      have hlen : ¬ 9223372036854775807 < 1 + (B k).length := by rw [HLEN.out k]; omega
      have hqw : IntKind.u64.wrap ((q : Int) / 256) = ((q / 256 : Nat) : Int) := by
        have h1 : q ≤ n := by rw [HQ.out]; exact Nat.div_le_self _ _
        have h2 := HN.out
        rw [IntKind.wrap_u64]; omega
      clear hy hyn
      go_wp2_with fail
      exact ⟨⟨k + 1, q / 256, by omega, by go_num, rfl, rfl, HQ2, HB2.out⟩, by simp [intOf]; omega⟩
    · obtain rfl : k = 8 := by omega
      go_wp2
      go_ret
      exact ⟨rfl, hb⟩
end Go.Proofs.YtcecjoodlmpgnaaGreat
