/- The iterator blocks: a head's and a text's blocks, and of how many bits both are, as numbers. -/
import Derived.Test.YtlfghagidajpeaaGFill
namespace Go.Proofs.Ytlfghagidajpeaa
open Go.RowKit Go.Shelf
attribute [local go_sem] Oper.semAt_some

/-- The block of how many bits. -/
def lenN (h t : List UInt8) : Nat := ofW (8 * h.length) (8 * t.length)
def blocksN (h t : List UInt8) : List Nat := fillC h ++ fillC t ++ [lenN h t]
/-- Between two rounds of the inner loop. -/
def InI (J : List Nat → (Nat → Prop) → World → Prop) (done : List Nat) (K0 : Nat → Prop) (W : World) (pre : List Nat) (Y : Nat → Prop) (V : World) : Prop :=
  ∃ Z : Nat → Prop, (∀ k, Y k → Z k) ∧ (∀ k, K0 k → Z k ∧ ¬ Y k ∧ V.heap[k]? = W.heap[k]?) ∧ Bd Z V ∧ J (done ++ pre) Z V
theorem InI.ab {J : List Nat → (Nat → Prop) → World → Prop} (hJ : Ab J) (done : List Nat) (K0 : Nat → Prop) (W : World) : Ab (InI J done K0 W) := by
  rintro s X V V' ⟨Z, h1, h2, h3, h4⟩ hg
  refine ⟨Xn Z V V', ?_, ?_, Xn.bd h3 hg.size, hJ _ _ _ _ h4 (hg.wide h1)⟩
  · rintro k (hk | hk)
    · exact .inl (h1 k hk)
    · exact .inr hk
  · intro k hk
    obtain ⟨a1, a2, a3⟩ := h2 k hk
    have hb := h3 k a1
    refine ⟨.inl a1, ?_, (hg.block k hb a2).trans a3⟩
    rintro (h | h)
    · exact a2 h
    · omega
theorem InI.start {J : List Nat → (Nat → Prop) → World → Prop} {done : List Nat} {K0 X0 Z : Nat → Prop} {W : World} (hJ : J done Z W) (hb : Bd Z W) (hX : ∀ k, X0 k → Z k) (hK : ∀ k, K0 k → Z k ∧ ¬ X0 k) : InI J done K0 W [] X0 W :=
  ⟨Z, hX, fun k hk => ⟨(hK k hk).1, (hK k hk).2, rfl⟩, hb, by rwa [List.append_nil]⟩
theorem InI.below {J : List Nat → (Nat → Prop) → World → Prop} (hJ : Ab J) {done : List Nat} {K0 : Nat → Prop} {W : World} {pre : List Nat} {Y : Nat → Prop} {V V' : World} (h : InI J done K0 W pre Y V) (hb : Below V.heap.size V V') : InI J done K0 W pre Y V' := by
  obtain ⟨Z, h1, h2, h3, h4⟩ := h
  refine ⟨Xn Z V V', fun k hk => .inl (h1 k hk), fun k hk => ?_, Xn.bd h3 hb.size, hJ _ _ _ _ h4 (Grow.of_below hb _)⟩
  obtain ⟨a1, a2, a3⟩ := h2 k hk
  exact ⟨.inl a1, a2, (hb.block k (h3 k a1)).trans a3⟩
theorem any_room {n m l : Nat} {k f : Nat} {tmps : Array Value} {assign body : Code} {w : World} {R : Ending → World → Prop} (h : RoundIn Fence.wide n Try.prog k f tmps assign body w R) : RoundIn (Fence.wide.inRound l) m Try.prog k f tmps assign body w R :=
  ⟨h.1, fun c cs _ => h.2 c cs (room_wide _)⟩
theorem gwpListIn_load_row {F : Fence} {n' : Nat} {P : Program} {ops : Array Oper} {rest : List Oper} {o : Oper} {a : Act} {w : World} {Q : Exit → Act → World → Prop} (hgd : o.guard = none) (ty : TypeId) (x : Operand) (ho : o.op = .load ty x)
    (g : Nat) (hx : a.eval x = .pointer (some ⟨g, 0, none⟩)) (t : TypeId) (cs : Array Value) (fr : Nat × Nat) (d : TypeDesc) (hg : w.heap[g]? = some (.cells cs t fr))
    (hu : P.underlying ty = some d) (hd : (match d with | .struct _ | .array _ _ => true | _ => false) = true) (hi : (P.info? ty).map (·.size) = some cs.size)
    (h : wpListIn F n' P ops Q rest (a.put o.dst (.agg cs)) w) : wpListIn F n' P ops Q (o :: rest) a w := by
  refine wpListIn_plain hgd fun K hK => ?_
  unfold Oper.wpIn
  refine ⟨?_, ?_⟩
  · simp [Oper.about, ho]
  · rw [Oper.semAt_plain F _ _ (by rw [ho]; intro c hc'; cases hc')]
    simp only [execOp, ho, hx, Instr.loadAt, Instr.sureAddr, Sem.run_bind, Sem.run_pure, Result.andThen_ok, run_loadVar_row w g t ty cs fr d hg hu hd hi]
    exact hK _ _ h

/-- A post that only the plain way out meets. -/
def OnlyN (Q : Exit → Act → World → Prop) : Exit → Act → World → Prop
  | .normal, a, w => Q .normal a w
  | _, _, _ => False
theorem wpIn_only {F : Fence} {n : Nat} {P : Program} {c : Code} {Q : Exit → Act → World → Prop} {a : Act} {w : World} (h : c.wpIn F n P (OnlyN Q) a w) : c.wpIn F n P Q a w :=
  Code.wpIn_mono (fun e a w q => by cases e <;> first | exact q | exact q.elim) h

set_option maxRecDepth 100000 in
set_option maxHeartbeats 8000000 in
theorem blocks_hands (n : Nat) (hn : 6 ≤ n) (B1 B2 : Nat) (h t : List UInt8) (w : World) (hh : h.length ≤ 80) (ht : t.length ≤ 80) (hB1 : Blk w B1 9 #[.string ⟨h.toArray⟩]) (hB2 : Blk w B2 9 #[.string ⟨t.toArray⟩]) :
    HandsX n 33 #[.pointer (some ⟨B1, 0, none⟩), .pointer (some ⟨B2, 0, none⟩)] (fun N => .agg (Pol N)) (blocksN h t) (fun k => k = B1 ∨ k = B2) w := by
  rintro l J X W hX hJ hY h0 hbd
  have HJ := Lib.hid hJ
  have HY := Lib.hid hY
  have x1 := (hX B1 (.inl rfl)).1
  have x2 := (hX B2 (.inr rfl)).1
  have b1 : Blk W B1 9 #[.string ⟨h.toArray⟩] := (hX B1 (.inl rfl)).2.trans hB1
  have b2 : Blk W B2 9 #[.string ⟨t.toArray⟩] := (hX B2 (.inr rfl)).2.trans hB2
  have c1 : W.cell? ⟨B1, 0, none⟩ = some (.string ⟨h.toArray⟩) := b1.cell 0
  have c2 : W.cell? ⟨B2, 0, none⟩ = some (.string ⟨t.toArray⟩) := b2.cell 0
  have l1 := b1.lt
  have l2 := b2.lt
  have HST : Hid (J [] X W ∧ X B1 ∧ X B2 ∧ Bd X W ∧ Blk W B1 9 #[.string ⟨h.toArray⟩] ∧ Blk W B2 9 #[.string ⟨t.toArray⟩]) := Lib.hid ⟨h0, x1, x2, hbd, b1, b2⟩
  have i0 : ∀ V : World, (Instr.index 61 (.agg #[.string ⟨h.toArray⟩, .string ⟨t.toArray⟩]) (.int .i64 0)).run Try.prog V = .ok (.string ⟨h.toArray⟩) V := fun V => by kernel_rfl
  have i1 : ∀ V : World, (Instr.index 61 (.agg #[.string ⟨h.toArray⟩, .string ⟨t.toArray⟩]) (.int .i64 1)).run Try.prog V = .ok (.string ⟨t.toArray⟩) V := fun V => by kernel_rfl
  have eg : ∀ args w, (callFunc 36 args).run Try.prog w = .ok (.enter 36 args) w := enters_of Try.func36 (by kernel_rfl) rfl
  have hd1 : 1 ≤ n := by omega
  have hd2 : 1 ≤ n - 1 - 1 := by omega
  clear hX hJ hY h0 hbd hB1 hB2 b1 b2 x1 x2
  refine callsIn_of_wp_marks Try.func33 rfl trivial ?_ rfl
  simp only [Try.ntmps33, List.size_toArray, List.length_cons, List.length_nil, Nat.reduceAdd, Nat.reduceSub, Array.replicate_succ, Array.replicate_zero, List.push_toArray, List.append_toArray, List.nil_append, List.cons_append]
  gi_wp2
  refine wpIn_loop_rounds 3 ?_
  rw [roundsIn_succ]
  gi_wp2_with fail
  refine ⟨trivial, ?_⟩
  refine (callsIn_wide.2 (filled_any h _)).mono ?_
  rintro e w' ⟨rfl, rfl⟩
  gi_wp2
  generalize hW1 : World.alloc (World.alloc W _) _ = W1
  have hb1 : Below W.heap.size W W1 := by rw [← hW1]; exact ba (ba (Below.refl _ _) _) _
  have z1 : W1.heap.size = W.heap.size + 1 + 1 := by rw [← hW1]; simp
  have bF : Blk W1 W.heap.size 60 #[.func (.yield l) #[] #[]] := by rw [← hW1]; exact (Blk.new W _ _).alloc _
  have bS : Blk W1 (W.heap.size + 1) 9 #[.string ⟨h.toArray⟩] := by rw [← hW1]; exact Blk.newAt (by simp) _ _
  have hst := HST.out
  have hJ1 := HJ.out _ _ _ _ hst.1 (Grow.of_below hb1 X)
  have bd1 := Xn.bd hst.2.2.2.1 hb1.size
  have p1 := hst.2.2.2.2.1.below hb1
  have p2 := hst.2.2.2.2.2.below hb1
  have q1 : Xn X W W1 B1 := .inl hst.2.1
  have q2 : Xn X W W1 B2 := .inl hst.2.2.1
  have qF : Xn X W W1 W.heap.size := .inr ⟨Nat.le_refl _, by omega⟩
  have qS : Xn X W W1 (W.heap.size + 1) := .inr ⟨by omega, by omega⟩
  generalize Xn X W W1 = Z1 at hJ1 bd1 q1 q2 qF qS
  clear hW1 hst HST hb1 c1 c2
  refine range_frame (n := n) hd1 (gf := 36) (lb := #[.pointer (some ⟨W.heap.size + 1, 0, none⟩)]) rfl eg (enc := fun N => .agg (Pol N)) (zs := fillC h) (X0 := fun k => k = W.heap.size + 1) (w0 := W1) (filled_hands (n - 1) (by omega) (W.heap.size + 1) h W1 (by omega) bS) (fun k hk => ⟨by subst hk; exact bS.lt, rfl⟩) (InI J [] (fun k => k = W.heap.size ∨ k = B1 ∨ k = B2) W1) (InI.ab HJ.out _ _ _) (InI.start hJ1 bd1 (fun k hk => by subst hk; exact qS) (fun k hk => by
      rcases hk with rfl | rfl | rfl
      · exact ⟨qF, by omega⟩
      · exact ⟨q1, by omega⟩
      · exact ⟨q2, by omega⟩
      ))
    (fun x a' V' => ∃ Bp, Blk V' Bp 40 (Pol x) ∧ a' = { tmps := #[.func (.yield l) #[] #[], .pointer (some ⟨B1, 0, none⟩), .pointer (some ⟨B2, 0, none⟩), .pointer (some ⟨W.heap.size, 0, none⟩), undef, .string ⟨h.toArray⟩, .pointer (some ⟨Bp, 0, none⟩), .string ⟨h.toArray⟩, .string ⟨t.toArray⟩, .agg #[.string ⟨h.toArray⟩, .string ⟨t.toArray⟩], .int .i64 0, .bool true, .string ⟨h.toArray⟩, .string ⟨h.toArray⟩, .func (.func 36) #[] #[.pointer (some ⟨W.heap.size + 1, 0, none⟩)], .agg (Pol x), undef, undef, undef, undef, undef, undef, undef, undef, undef, undef, undef, undef], defers := [] })
    (fun x a' V' k o o' hs hl ho hc => by
      obtain ⟨Bp, h1, h2⟩ := hs
      refine ⟨Bp, (World.putObj_heap_other (fun e9 => ?_)).trans h1, h2⟩
      subst e9
      rw [show V'.heap[Bp]? = _ from h1] at ho
      cases ho
      cases hc)
    ?assign1 ?body1 ?done1
  case assign1 =>
    rintro l9 pre x Y V' K hI _ _ _ hK
    have HI2 := Lib.hid (hI.below HJ.out (ba (Below.refl V'.heap.size V') (.cells (Pol x) 40)))
    have HKP : Hid (Keep Y V' (V'.alloc (.cells (Pol x) 40))) := Lib.hid (by
      obtain ⟨Z', a1, _, a3, _⟩ := hI
      exact Keep.of_below (ba (Below.refl _ _) _) (fun k hk => a3 k (a1 k hk)))
    have HBP := Lib.hid (Blk.new V' 40 (Pol x))
    clear hI
    gi_wp2
    exact hK _ _ HI2.out HKP.out ⟨V'.heap.size, HBP.out, rfl⟩
  case body1 =>
    rintro l9 pre x a' Y V' hl9 ⟨Z', a1, a2, a3, a4⟩ hbY ⟨Bp, hbp, rfl⟩ hpre
    have cF : V'.cell? ⟨W.heap.size, 0, none⟩ = some (.func (.yield l) #[] #[]) := (show Blk V' W.heap.size _ _ from (a2 _ (.inl rfl)).2.2.trans bF).cell 0
    have HBP := Lib.hid hbp
    have hpf : ([] ++ pre) ++ [x] <+: blocksN h t := by obtain ⟨r, hr⟩ := hpre; exact ⟨r ++ (fillC t ++ [lenN h t]), by unfold blocksN; rw [← hr]; simp⟩
    obtain ⟨fn, tmps, assign, body, hy, hR⟩ := HY.out _ _ _ _ a4 a3 hpf
    have HR := Lib.hid (any_room (l := l9) (m := n - 1 - 1 - 1) hR)
    have HA := Lib.hid (And.intro a1 a2)
    have HBd := Lib.hid a3
    clear hR a1 a2 a3 a4 hpf hpre hbp
    gi_wp2_with (refine gwpListIn_load_row rfl _ _ rfl _ rfl _ _ _ _ HBP.out Try.underlying40 rfl (plen x) ?_)
    refine HR.out.mono ?_
    rintro e V3 ⟨rfl, hJ9, hk9⟩
    have hF9 : LeftX (InI J [] (fun k => k = W.heap.size ∨ k = B1 ∨ k = B2) W1) (pre ++ [x]) Y V' .normal ({ tmps := #[], defers := [] } : Act) V3 := by
      refine ⟨⟨Z', HA.out.1, fun k hk => ?_, fun k hk => Nat.lt_of_lt_of_le (HBd.out k hk) hk9.1, by rw [← List.append_assoc]; exact hJ9⟩, hk9.less HA.out.1⟩
      obtain ⟨g1, g2, g3⟩ := HA.out.2 k hk
      exact ⟨g1, g2, (hk9.2 k g1).trans g3⟩
    have HF9 := Lib.hid hF9
    clear hF9 hJ9 hk9 cF hy
    gi_wp2
    exact HF9.out
  case done1 =>
    rintro D1 Y1 W2 hD1 ⟨Z2, a1, a2, a3, a4⟩ hbY hYD hdf
    rw [List.nil_append] at a4
    have q12 := (a2 B1 (.inr (.inl rfl)))
    have q22 := (a2 B2 (.inr (.inr rfl)))
    have qF2 := (a2 W.heap.size (.inl rfl))
    have qD2 := a1 _ hYD
    have cF2 : W2.cell? ⟨W.heap.size, 0, none⟩ = some (.func (.yield l) #[] #[]) := (show Blk W2 W.heap.size _ _ from qF2.2.2.trans bF).cell 0
    have HJ2 := Lib.hid a4
    have HBd2 := Lib.hid a3
    have b12 : Blk W2 B1 9 #[.string ⟨h.toArray⟩] := q12.2.2.trans p1
    have b22 : Blk W2 B2 9 #[.string ⟨t.toArray⟩] := q22.2.2.trans p2
    have bF2 : Blk W2 W.heap.size 60 #[.func (.yield l) #[] #[]] := qF2.2.2.trans bF
    have HQ2 : Hid (Z2 B1 ∧ Z2 B2 ∧ Z2 W.heap.size ∧ Z2 D1) := Lib.hid ⟨q12.1, q22.1, qF2.1, qD2⟩
    have HDF := Lib.hid hdf
    have HB12 := Lib.hid b12
    have HB22 := Lib.hid b22
    have HBF2 := Lib.hid bF2
    have sD := (Array.getElem?_eq_some_iff.1 hdf).1
    have sF := bF2.lt
    have s1 := b12.lt
    have s2 := b22.lt
    clear a1 a2 a3 a4 hbY hYD q12 q22 qF2 qD2 hdf b12 b22 bF2 cF2 hJ1 bd1 p1 p2 q1 q2 qF qS bF bS Y1
    gi_wp2
    rw [roundsIn_succ]
    gi_wp2_with fail
    refine ⟨trivial, ?_⟩
    refine (callsIn_wide.2 (filled_any t _)).mono ?_
    rintro e w' ⟨rfl, rfl⟩
    gi_wp2
    generalize hW3 : World.alloc W2 _ = W3
    have hb3 : Below W2.heap.size W2 W3 := by rw [← hW3]; exact ba (Below.refl _ _) _
    have z3 : W3.heap.size = W2.heap.size + 1 := by rw [← hW3]; simp
    have bS3 : Blk W3 W2.heap.size 9 #[.string ⟨t.toArray⟩] := by rw [← hW3]; exact Blk.new W2 _ _
    have bF3 := HBF2.out.below hb3
    have b13 := HB12.out.below hb3
    have b23 := HB22.out.below hb3
    have dF3 := (hb3.block D1 sD).trans HDF.out
    have hJ3 := HJ.out _ _ _ _ HJ2.out (Grow.of_below hb3 Z2)
    have bd3 := Xn.bd HBd2.out hb3.size
    have q13 : Xn Z2 W2 W3 B1 := .inl HQ2.out.1
    have q23 : Xn Z2 W2 W3 B2 := .inl HQ2.out.2.1
    have qF3 : Xn Z2 W2 W3 W.heap.size := .inl HQ2.out.2.2.1
    have qD3 : Xn Z2 W2 W3 D1 := .inl HQ2.out.2.2.2
    have qS3 : Xn Z2 W2 W3 W2.heap.size := .inr ⟨Nat.le_refl _, by omega⟩
    generalize Xn Z2 W2 W3 = Z3 at hJ3 bd3 q13 q23 qF3 qD3 qS3
    clear hW3 HJ2 HBd2 HQ2 HB12 HB22 HBF2 HDF hb3
    refine range_frame (n := n) hd1 (gf := 36) (lb := #[.pointer (some ⟨W2.heap.size, 0, none⟩)]) rfl eg (enc := fun N => .agg (Pol N)) (zs := fillC t) (X0 := fun k => k = W2.heap.size) (w0 := W3) (filled_hands (n - 1) (by omega) (W2.heap.size) t W3 (by omega) bS3) (fun k hk => ⟨by subst hk; exact bS3.lt, rfl⟩) (InI J (fillC h) (fun k => k = W.heap.size ∨ k = B1 ∨ k = B2 ∨ k = D1) W3) (InI.ab HJ.out _ _ _) (InI.start hJ3 bd3 (fun k hk => by subst hk; exact qS3) (fun k hk => by
        rcases hk with rfl | rfl | rfl | rfl
        · exact ⟨qF3, by omega⟩
        · exact ⟨q13, by omega⟩
        · exact ⟨q23, by omega⟩
        · exact ⟨qD3, by omega⟩
        ))
      (fun x a' V' => ∃ Bp, Blk V' Bp 40 (Pol x) ∧ a' = { tmps := #[.func (.yield l) #[] #[], .pointer (some ⟨B1, 0, none⟩), .pointer (some ⟨B2, 0, none⟩), .pointer (some ⟨W.heap.size, 0, none⟩), undef, .string ⟨t.toArray⟩, .pointer (some ⟨Bp, 0, none⟩), .string ⟨h.toArray⟩, .string ⟨t.toArray⟩, .agg #[.string ⟨h.toArray⟩, .string ⟨t.toArray⟩], .int .i64 1, .bool true, .string ⟨t.toArray⟩, .string ⟨t.toArray⟩, .func (.func 36) #[] #[.pointer (some ⟨W2.heap.size, 0, none⟩)], .agg (Pol x), undef, undef, undef, undef, .int .i64 1, undef, undef, undef, undef, undef, undef, undef], defers := [] })
      (fun x a' V' k o o' hs hl ho hc => by
        obtain ⟨Bp, h1, h2⟩ := hs
        refine ⟨Bp, (World.putObj_heap_other (fun e9 => ?_)).trans h1, h2⟩
        subst e9
        rw [show V'.heap[Bp]? = _ from h1] at ho
        cases ho
        cases hc)
      ?assign2 ?body2 ?done2
    case assign2 =>
      rintro l9 pre x Y V' K hI _ _ _ hK
      have HI2 := Lib.hid (hI.below HJ.out (ba (Below.refl V'.heap.size V') (.cells (Pol x) 40)))
      have HKP : Hid (Keep Y V' (V'.alloc (.cells (Pol x) 40))) := Lib.hid (by
        obtain ⟨Z', a1, _, a3, _⟩ := hI
        exact Keep.of_below (ba (Below.refl _ _) _) (fun k hk => a3 k (a1 k hk)))
      have HBP := Lib.hid (Blk.new V' 40 (Pol x))
      clear hI
      gi_wp2
      exact hK _ _ HI2.out HKP.out ⟨V'.heap.size, HBP.out, rfl⟩
    case body2 =>
      rintro l9 pre x a' Y V' hl9 ⟨Z', a1, a2, a3, a4⟩ hbY ⟨Bp, hbp, rfl⟩ hpre
      have cF : V'.cell? ⟨W.heap.size, 0, none⟩ = some (.func (.yield l) #[] #[]) := (show Blk V' W.heap.size _ _ from (a2 _ (.inl rfl)).2.2.trans bF3).cell 0
      have HBP := Lib.hid hbp
      have hpf : (fillC h ++ pre) ++ [x] <+: blocksN h t := by obtain ⟨r, hr⟩ := hpre; exact ⟨r ++ [lenN h t], by unfold blocksN; rw [← hr]; simp⟩
      obtain ⟨fn, tmps, assign, body, hy, hR⟩ := HY.out _ _ _ _ a4 a3 hpf
      have HR := Lib.hid (any_room (l := l9) (m := n - 1 - 1 - 1) hR)
      have HA := Lib.hid (And.intro a1 a2)
      have HBd := Lib.hid a3
      clear hR a1 a2 a3 a4 hpf hpre hbp
      gi_wp2_with (refine gwpListIn_load_row rfl _ _ rfl _ rfl _ _ _ _ HBP.out Try.underlying40 rfl (plen x) ?_)
      refine HR.out.mono ?_
      rintro e V3 ⟨rfl, hJ9, hk9⟩
      have hF9 : LeftX (InI J (fillC h) (fun k => k = W.heap.size ∨ k = B1 ∨ k = B2 ∨ k = D1) W3) (pre ++ [x]) Y V' .normal ({ tmps := #[], defers := [] } : Act) V3 := by
        refine ⟨⟨Z', HA.out.1, fun k hk => ?_, fun k hk => Nat.lt_of_lt_of_le (HBd.out k hk) hk9.1, by rw [← List.append_assoc]; exact hJ9⟩, hk9.less HA.out.1⟩
        obtain ⟨g1, g2, g3⟩ := HA.out.2 k hk
        exact ⟨g1, g2, (hk9.2 k g1).trans g3⟩
      have HF9 := Lib.hid hF9
      clear hF9 hJ9 hk9 cF hy
      gi_wp2
      exact HF9.out
    case done2 =>
      rintro D2 Y2 W4 hD2 ⟨Z4, a1, a2, a3, a4⟩ hbY hYD hdf
      have q14 := (a2 B1 (.inr (.inl rfl)))
      have q24 := (a2 B2 (.inr (.inr (.inl rfl))))
      have qF4 := (a2 W.heap.size (.inl rfl))
      have qD4 := (a2 D1 (.inr (.inr (.inr rfl))))
      have qE4 := a1 _ hYD
      have b14 : Blk W4 B1 9 #[.string ⟨h.toArray⟩] := q14.2.2.trans b13
      have b24 : Blk W4 B2 9 #[.string ⟨t.toArray⟩] := q24.2.2.trans b23
      have bF4 : Blk W4 W.heap.size 60 #[.func (.yield l) #[] #[]] := qF4.2.2.trans bF3
      have dF4 := qD4.2.2.trans dF3
      have hJ5 := HJ.out _ _ _ _ a4 (Grow.refl Z4 W4).drew
      have bd5 : Bd (Xn Z4 W4 W4.drew) W4.drew := Xn.bd a3 (Nat.le_refl _)
      have hpf : (fillC h ++ fillC t) ++ [lenN h t] <+: blocksN h t := List.prefix_refl _
      obtain ⟨fn, tmps, assign, body, hy, hR⟩ := HY.out _ _ _ _ hJ5 bd5 hpf
      have hPol : Pol (lenN h t) = #[qv (8 * h.length), qv (8 * t.length)] := by
        unfold Pol lenN
        rw [w0_of _ (by show _ < 18446744073709551616; omega), w1_of _ (by show _ < 18446744073709551616; omega)]
      rw [hPol] at hy
      have HBO1 := Lib.hid (fun V => bitsOf_any h _ V rfl hh)
      have HBO2 := Lib.hid (fun V => bitsOf_any t _ V rfl ht)
      have HR := Lib.hid hR
      have HD := Lib.hid (And.intro hdf dF4)
      have HQ5 : Hid (Xn Z4 W4 W4.drew D1 ∧ Xn Z4 W4 W4.drew D2) := Lib.hid ⟨.inl qD4.1, .inl qE4⟩
      have hne : D1 ≠ D2 := by omega
      have cF4 : W4.drew.cell? ⟨W.heap.size, 0, none⟩ = some (.func (.yield l) #[] #[]) := bF4.cell 0
      have c14 : W4.drew.cell? ⟨B1, 0, none⟩ = some (.string ⟨h.toArray⟩) := b14.cell 0
      have c24 : W4.drew.cell? ⟨B2, 0, none⟩ = some (.string ⟨t.toArray⟩) := b24.cell 0
      have hmx : Try.prog.follows .mixedOrders = true := by kernel_rfl
      have HBZ : Hid (blocksN h t = fillC h ++ fillC t ++ [lenN h t]) := Lib.hid rfl
      rw [← HBZ.out] at HR
      clear HBZ
      generalize 8 * h.length = x at HBO1 hy
      generalize 8 * t.length = y at HBO2 hy
      have HEND : Hid (∀ (a : Act) (W5 : World), J (blocksN h t) (Xn Z4 W4 W4.drew) W5 → Keep (Xn Z4 W4 W4.drew) W4.drew W5 → a.defers = [{ target := .collected D2, args := #[] }, { target := .collected D1, args := #[] }] →
          bodyPostM Fence.wide n Try.prog Try.f33 (fun e W' => (∃ v, e = .returned v) ∧ ∃ Y, J (blocksN h t) Y W' ∧ Bd Y W') .normal a W5) := Lib.hid (fun a W5 hJ6 hk6 hdef => by
        have e2 := (hk6.2 D2 HQ5.out.2).trans HD.out.1
        have e1 := (hk6.2 D1 HQ5.out.1).trans HD.out.2
        have e1' : (W5.putObj D2 (.deferred none)).heap[D1]? = some (.deferred (some [])) := (World.putObj_heap_other hne).trans e1
        have hJ7 := HJ.out _ _ _ _ hJ6 (Grow.putObj HQ5.out.2 W5 (.deferred none))
        have hJ8 := HJ.out _ _ _ _ hJ7 (Grow.putObj (X := Xn (Xn Z4 W4 W4.drew) W5 (W5.putObj D2 (.deferred none))) (.inl HQ5.out.1) (W5.putObj D2 (.deferred none)) (.deferred none))
        have hbd8 : Bd (Xn (Xn Z4 W4 W4.drew) W5 (W5.putObj D2 (.deferred none))) (W5.putObj D2 (.deferred none)) := Xn.bd (fun k hk => Nat.lt_of_lt_of_le (bd5 k hk) hk6.1) (Nat.le_of_eq World.putObj_size.symm)
        show LeavesInM _ _ _ _ _ _ a.defers _ _
        rw [hdef]
        refine ⟨by simp, .inl ⟨_, _, rfl, run_takeDeferred e2, ?_⟩⟩
        refine ⟨by simp, .inl ⟨_, _, rfl, run_takeDeferred e1', ?_⟩⟩
        refine ⟨_, results_none rfl _ _ _, ⟨_, rfl⟩, _, hJ8, Xn.bd hbd8 (Nat.le_of_eq World.putObj_size.symm)⟩)
      clear a1 a2 a3 a4 q14 q24 qF4 qD4 qE4 hbY hYD hdf dF4 hJ5 hpf hPol hR b14 b24 bF4 hJ3 bd3 q13 q23 qF3 qD3 qS3 bF3 b13 b23 dF3 bS3 Y2
      gi_wp2
      rw [roundsIn_succ]
      gi_wp2
      refine wpIn_only ?_
      gi_region_with_o (first | (refine HR.out.mono ?_; rintro e W5 ⟨rfl, hJ6, hk6⟩) | (refine ⟨trivial, ?_⟩; (with_reducible refine (callsIn_wide.2 (HBO1.out _)).mono ?_); rintro e w' ⟨rfl, rfl⟩) | (refine ⟨trivial, ?_⟩; (with_reducible refine (callsIn_wide.2 (HBO2.out _)).mono ?_); rintro e w' ⟨rfl, rfl⟩))
      all_goals (exact (show OnlyN _ .normal _ _ from HEND.out _ _ hJ6 hk6 rfl))
end Go.Proofs.Ytlfghagidajpeaa
