/- The contracts of newKeys and firstState. -/
import Derived.Test.YtilcondnpoinkaaHPR
import Derived.Test.YtilcondnpoinkaaHArr
namespace Go.Proofs.Ytilcondnpoinkaa
open Go.RowKit Go.Shelf
attribute [local go_sem] Oper.semAt_some

/-- So many numbers, and zeros behind them. -/
def zrow (L : List Nat) (m k : Nat) : Array Value := ((L.take k ++ List.replicate (m - k) 0).map wv).toArray
theorem zrow_set (L : List Nat) (m k : Nat) (h : k < m) (hl : L.length = m) : (zrow L m k).setIfInBounds k (wv (wn L k)) = zrow L m (k + 1) := by
  unfold zrow
  obtain ⟨r, hr⟩ : ∃ r, m - k = r + 1 := ⟨m - k - 1, by omega⟩
  have hr' : m - (k + 1) = r := by omega
  have hk : k < L.length := by omega
  rw [hr, hr', wn_get L k hk, ← List.take_append_getElem hk]
  have hl : (L.take k).length = k := by rw [List.length_take]; omega
  generalize L[k] = y
  generalize L.take k = S at hl
  subst hl
  simp [List.replicate_succ]
theorem zrow_all (L : List Nat) (m : Nat) (hl : L.length = m) : zrow L m m = (L.map wv).toArray := by
  unfold zrow
  rw [List.take_of_length_le (by omega)]
  simp
theorem zrow_at (L : List Nat) (m k : Nat) (h : k < m) (hl : L.length = m) : (zrow L m k)[k]? = some (wv 0) := by
  unfold zrow
  obtain ⟨r, hr⟩ : ∃ r, m - k = r + 1 := ⟨m - k - 1, by omega⟩
  have hl : (L.take k).length = k := by rw [List.length_take]; omega
  rw [hr]
  generalize L.take k = S at hl
  subst hl
  simp [List.replicate_succ]
theorem zrow_size (L : List Nat) (m k : Nat) (h : k ≤ m) (hl : L.length = m) : (zrow L m k).size = m := by
  simp [zrow]; omega
theorem pairs_at (P : List Nat) (m : Nat) (pre : List (Nat × Nat)) (x : Nat × Nat) (h : (pre ++ [x]) <+: pairs P m) : x = (pre.length, wn P pre.length) ∧ pre.length < m := by
  obtain ⟨r, hr⟩ := h
  have hl := congrArg List.length hr
  rw [pairs_len] at hl
  simp only [List.length_append, List.length_cons, List.length_nil] at hl
  have hlt : pre.length < m := by omega
  have hx : (pairs P m)[pre.length]? = some x := by rw [← hr]; simp
  rw [pairs, List.getElem?_map, List.getElem?_range hlt] at hx
  exact ⟨(Option.some.inj hx).symm, hlt⟩
theorem keepC {B : Nat} {W W' : World} {row : Option Nat} {k : Nat} {t : TypeId} {cs : Array Value} (hb : Blk W k t cs) (hg : W.grownBy W' row) (h : RowC B W row) (ht : t ≠ 66) : Blk W' k t cs :=
  h.cells hg hb rfl (fun c fr e => by cases e; exact ht rfl)
theorem KpC.setArr {n₀ B : Nat} {W : World} {t : TypeId} {cs : Array Value} (hb : Blk W B t cs) (h1 : t ≠ 66) (h2 : t ≠ 3) (hn : n₀ ≤ B) (i : Nat) (x : Value) : KpC n₀ W (W.setCell ⟨B, i, none⟩ x) := by
  refine ⟨(Below.refl n₀ W).setCell (p := ⟨B, i, none⟩) hn x, fun k c t' fr ht' hk => ?_⟩
  refine (Below.heap_setCell W ⟨B, i, none⟩ x k (fun e => ?_)).trans hk
  have e' : k = B := e
  subst e'
  rw [show W.heap[k]? = _ from hb] at hk
  cases hk
  rcases ht' with rfl | rfl
  · exact h1 rfl
  · exact h2 rfl
theorem wpListIn_load_row {F : Fence} {n' : Nat} {P : Program} {ops : Array Oper} {rest : List Oper} {o : Oper} {a : Act} {w : World} {Q : Exit → Act → World → Prop} (hgd : o.guard = none) (ty : TypeId) (x : Operand) (ho : o.op = .load ty x)
    (g : Nat) (hx : a.eval x = .pointer (some ⟨g, 0, none⟩)) (t : TypeId) (cs : Array Value) (fr : Nat × Nat) (d : TypeDesc) (hg : w.heap[g]? = some (.cells cs t fr))
    (hu : P.underlying ty = some d) (hd : (match d with | .struct _ | .array _ _ => true | _ => false) = true) (hi : (P.info? ty).map (·.size) = some cs.size)
    (h : wpListIn F n' P ops Q rest (a.put o.dst (.agg cs)) w) : wpListIn F n' P ops Q (o :: rest) a w := by
  refine wpListIn_plain hgd fun K hK => ?_
  unfold Oper.wpIn
  refine ⟨?_, ?_⟩
  · simp [Oper.about, ho]
  · rw [Oper.semAt_plain F _ _ (by rw [ho]; intro c hc'; cases hc')]
    simp only [execOp, ho, hx, Instr.loadAt, Instr.sureAddr, Sem.run_bind, Sem.run_pure, Result.andThen_ok, run_loadVar_row w g t ty cs fr d hg hu hd hi]
    exact hK _ _ h
theorem wpListIn_store_mid {F : Fence} {n' : Nat} {P : Program} {ops : Array Oper} {rest : List Oper} {op : Oper} {a : Act} {w : World} {Q : Exit → Act → World → Prop} (hgd : op.guard = none) (ty : TypeId) (x y : Operand) (ho : op.op = .store ty x y)
    (b o : Nat) (cells : Array Value) (hx : a.eval x = .pointer (some ⟨b, o, none⟩)) (hy : a.eval y = .agg cells)
    (ht : w.there b o cells.size) (hi : (P.info? ty).map (·.size) = some cells.size) (h1 : cells.all (·.oneCell') = true)
    (h : wpListIn F n' P ops Q rest (a.put op.dst undef) (w.setCells b o cells.toList)) : wpListIn F n' P ops Q (op :: rest) a w := by
  refine wpListIn_plain hgd fun K hK => ?_
  unfold Oper.wpIn
  refine ⟨?_, ?_⟩
  · simp [Oper.about, ho]
  · rw [Oper.semAt_plain F _ _ (by rw [ho]; intro c hc'; cases hc')]
    simp only [execOp, ho, hx, hy, Instr.storeAt, Instr.sureAddr, Sem.run_bind, Sem.run_pure, Result.andThen_ok, run_storeVar_mid w b o ty cells ht hi h1]
    exact hK _ _ h
theorem keeps_below {W W' : World} (h : Below W.heap.size W W') : KeepsOthers W W' := ⟨h.size, fun k _ hk _ => (h.block k (Array.getElem?_eq_some_iff.1 hk).1).trans hk⟩
theorem wn_map (L : List Nat) (f : Nat → Nat) (j : Nat) (h : j < L.length) : wn (L.map f) j = f (wn L j) := by
  rw [wn_get _ j (by simpa using h), wn_get _ j h]; simp
theorem wn_keys (j : Nat) (h : j < 64) : wn keysL j = rootC (wn PR j) := by rw [← keys_ok]; exact wn_map PR rootC j h
theorem wn_start (j : Nat) (h : j < 8) : wn startL j = rootS (wn (PR.take 8) j) := by rw [← start_ok]; exact wn_map (PR.take 8) rootS j h
theorem PR_lt : ∀ x ∈ PR, x < 4294967296 := by decide +kernel
theorem pl_keys (j : Nat) : wn PR j < 4294967296 := wn_lt PR_lt j
theorem pl_start (j : Nat) : wn (PR.take 8) j < 4294967296 := wn_lt (fun x hx => PR_lt x (List.mem_of_mem_take hx)) j

/-- Between two rounds. -/
def KeysI (w : World) (pre : List (Nat × Nat)) (W : World) : Prop :=
  (Hid (Blk W w.heap.size 74 (zrow keysL 64 0)) ∧ Hid (Blk W (w.heap.size + 1) 74 (zrow keysL 64 pre.length))) ∧ Below w.heap.size w W
theorem KeysI_kept (w : World) {B : Nat} (hB : w.heap.size ≤ B) : KeptC B (KeysI w) := by
  rintro s W W' row ⟨⟨h1, h2⟩, h6⟩ hg hr
  exact ⟨⟨Lib.hid (keepC h1.out hg hr (by decide)), Lib.hid (keepC h2.out hg hr (by decide))⟩, h6.grown hg h6.size (fun k e => Nat.le_trans hB (hr k e).1)⟩

set_option maxRecDepth 100000 in
set_option maxHeartbeats 4000000 in
theorem keys_any (w : World) : Calls Try.prog 46 #[] w fun e w' => e = .returned (.agg (keysL.map wv).toArray) ∧ Below w.heap.size w w' := by
  refine (callsIn_wide (n := 6)).1 ?_
  refine callsIn_of_wp_marks Try.func46 rfl trivial ?_ rfl
  simp only [Try.ntmps46, List.size_toArray, List.length_nil, Nat.reduceSub, Array.replicate_succ, Array.replicate_zero, List.push_toArray, List.append_toArray, List.nil_append, List.cons_append]
  gi_wp2_with (refine ⟨trivial, ?_⟩; refine (callsIn_wide.2 (primes_any 64 _)).mono ?_; rintro e w' ⟨rfl, rfl⟩)
  generalize hW0 : World.alloc (World.alloc (World.alloc w _) _) _ = W0
  have z0 : W0.heap.size = w.heap.size + 3 := by rw [← hW0]; simp
  have bM : Boxed W0 (w.heap.size + 2) 3 (.int .i64 ((64 : Nat) : Int)) := by
    rw [← hW0]; have := Boxed.new ((w.alloc (.cells (zrow keysL 64 0) 74)).alloc (.cells (zrow keysL 64 0) 74)) 3 (.int .i64 ((64 : Nat) : Int)); simp only [World.size_alloc] at this; exact this
  have b1 : Hid (Blk W0 (w.heap.size + 1) 74 (zrow keysL 64 0)) := Lib.hid (by rw [← hW0]; exact Blk.alloc (heap_alloc2_new w _ _) _)
  have b0 : Hid (Blk W0 w.heap.size 74 (zrow keysL 64 0)) := Lib.hid (by rw [← hW0]; exact Blk.alloc (heap_alloc2_old w _ _) _)
  have hB0 : Below w.heap.size w W0 := by rw [← hW0]; exact ba (ba (ba (Below.refl _ _) _) _) _
  clear hW0
  have eg : ∀ args w, (callFunc 68 args).run Try.prog w = .ok (.enter 68 args) w := enters_of Try.func68 (by kernel_rfl) rfl
  refine range_cells (n := 6) (w0 := W0) (by omega) (gf := 68) (lb := #[.pointer (some ⟨w.heap.size + 2, 0, none⟩)]) rfl eg (n₀ := w.heap.size) (by omega) (primes_hands 5 (by omega) (w.heap.size + 2) w.heap.size 64 310 (by omega) (by omega) (by rw [end64]; rfl) bef64 W0 bM) (Below.refl _ _) (KeysI w) (fun _ _ _ => False) (KeysI_kept w (by omega)) (fun _ _ _ _ _ h => h.elim) ⟨⟨b0, b1⟩, hB0⟩
    (fun x a' W => a' = { tmps := #[.pointer (some ⟨w.heap.size, 0, none⟩), .pointer (some ⟨w.heap.size + 1, 0, none⟩), .int .i64 (x.1 : Int), .int .u32 (x.2 : Int), .func (.func 68) #[] #[.pointer (some ⟨w.heap.size + 2, 0, none⟩)], .int .i64 (x.1 : Int), .int .u32 (x.2 : Int), undef, undef, undef, undef, undef], defers := [] })
    (fun x a' Y l o o' hs hl ho hc => hs)
    ?assign ?body ?done ?stop
  case assign =>
    rintro l pre x W K hI hK
    gi_wp2
    exact hK _ _ (KeepsFrom.refl _ _) ⟨Below.refl _ _, fun _ _ _ _ _ h => h⟩ hI rfl
  case body =>
    rintro l pre x a' W hl ⟨⟨h0, h1⟩, hB1⟩ rfl hlt
    obtain ⟨hx, hj⟩ := pairs_at _ _ _ _ hlt
    rw [end64] at hx
    have hw := wn_keys pre.length hj
    have hlen : (pre ++ [x]).length = pre.length + 1 := by simp
    have hset := zrow_set keysL 64 pre.length hj rfl
    have hat := zrow_at keysL 64 pre.length hj rfl
    have hpl := pl_keys pre.length
    rw [hw] at hset
    generalize hxe : x = x' at hx hlen ⊢
    clear hlt hxe hw
    subst hx
    have HLEN := Lib.hid hlen
    clear hlen
    have HI : Hid (∀ W', Hid (Blk W' w.heap.size 74 (zrow keysL 64 0)) → Hid (Blk W' (w.heap.size + 1) 74 (zrow keysL 64 (pre.length + 1))) → Below w.heap.size w W' → KeysI w (pre ++ [(pre.length, wn (PR) pre.length)]) W') := Lib.hid (fun W' a b c => ⟨⟨a, by rw [HLEN.out]; exact b⟩, c⟩)
    generalize pre ++ [(pre.length, wn (PR) pre.length)] = pre2 at HI ⊢
    clear HLEN
    generalize wn (PR) pre.length = p at hset hpl HI ⊢
    generalize pre.length = j at h1 hj hset hat HI ⊢
    have HSET := Lib.hid hset
    have HAT := Lib.hid hat
    clear hset hat
    have z1 := hB1.size
    gi_wp2_with fail
    refine ⟨trivial, ?_⟩
    refine (CallsIn.inRound l (callsIn_wide.2 (cbrt_any p (by omega) _))).mono ?_
    rintro e W1 ⟨rfl, hb⟩
    have k0 := h0.out.below hb
    have k1 := h1.out.below hb
    have c1 := (k1.cell j).trans HAT.out
    have f1 := k1.frozen j
    have z2 := hb.size
    gi_wp2_with fail
    refine ⟨((keeps_below hb).trans (KeepsOthers.setCell _ _ _)).from _, (KpC.of_below hb z1).trans (KpC.setArr k1 (by decide) (by decide) (by omega) j _), HI.out _ (Lib.hid (k0.far (by simp) _)) (Lib.hid ?_) (bs (bt hB1 hb) (by omega) _)⟩
    have := k1.set_ j (wv (rootC p))
    rw [HSET.out] at this
    exact this
  case done =>
    rintro D W hD ⟨⟨h0, h1⟩, hB1⟩ hK
    have h1' : Hid (Blk W (w.heap.size + 1) 74 (keysL.map wv).toArray) := Lib.hid (by have := h1.out; rw [pairs_len, zrow_all keysL 64 rfl] at this; exact this)
    clear h1
    have hW := h0.out.whole (keysL.map wv) rfl
    have HONE := Lib.hid (words_one keysL)
    gi_wp2_with (first | (refine wpListIn_load_row rfl _ _ rfl _ rfl _ _ _ _ h1'.out Try.underlying74 rfl (by kernel_rfl) ?_) | (refine wpListIn_store_mid rfl _ _ _ rfl _ _ (keysL.map wv).toArray rfl rfl (h0.out.there (by decide)) (by kernel_rfl) (all_oneCell_toArray HONE.out) ?_))
    have hKn : (W.setCells w.heap.size 0 (keysL.map wv)).heap[D]? = some (.deferred (some [])) := (setCells_heap _ W w.heap.size 0 D (by omega)).trans hK
    refine ⟨by simp, .inl ⟨_, _, rfl, run_takeDeferred hKn, ?_⟩⟩
    have hW2 : ((W.setCells w.heap.size 0 (keysL.map wv)).putObj D (.deferred none)).heap[w.heap.size]? = some (.cells (keysL.map wv).toArray 74 (0, 0)) := (World.putObj_heap_other (by omega)).trans hW
    refine ⟨.agg (keysL.map wv).toArray, results_cell_row rfl _ _ _ _ _ _ _ rfl hW2 Try.underlying74 rfl (by kernel_rfl), rfl, ?_⟩
    exact (bw hB1 (Nat.le_refl _) _ _).trans (belowK_b (w := w) (Nat.le_refl _) _ D _ _ (by omega) hKn rfl rfl)
  case stop =>
    rintro D c pre W hD hp h
    exact h.elim

/-- Between two rounds. -/
def StartI (w : World) (pre : List (Nat × Nat)) (W : World) : Prop :=
  (Hid (Blk W w.heap.size 77 (zrow startL 8 0)) ∧ Hid (Blk W (w.heap.size + 1) 77 (zrow startL 8 pre.length))) ∧ Below w.heap.size w W
theorem StartI_kept (w : World) {B : Nat} (hB : w.heap.size ≤ B) : KeptC B (StartI w) := by
  rintro s W W' row ⟨⟨h1, h2⟩, h6⟩ hg hr
  exact ⟨⟨Lib.hid (keepC h1.out hg hr (by decide)), Lib.hid (keepC h2.out hg hr (by decide))⟩, h6.grown hg h6.size (fun k e => Nat.le_trans hB (hr k e).1)⟩

set_option maxRecDepth 100000 in
set_option maxHeartbeats 4000000 in
theorem start_any (w : World) : Calls Try.prog 47 #[] w fun e w' => e = .returned (.agg (startL.map wv).toArray) ∧ Below w.heap.size w w' := by
  refine (callsIn_wide (n := 6)).1 ?_
  refine callsIn_of_wp_marks Try.func47 rfl trivial ?_ rfl
  simp only [Try.ntmps47, List.size_toArray, List.length_nil, Nat.reduceSub, Array.replicate_succ, Array.replicate_zero, List.push_toArray, List.append_toArray, List.nil_append, List.cons_append]
  gi_wp2_with (refine ⟨trivial, ?_⟩; refine (callsIn_wide.2 (primes_any 8 _)).mono ?_; rintro e w' ⟨rfl, rfl⟩)
  generalize hW0 : World.alloc (World.alloc (World.alloc w _) _) _ = W0
  have z0 : W0.heap.size = w.heap.size + 3 := by rw [← hW0]; simp
  have bM : Boxed W0 (w.heap.size + 2) 3 (.int .i64 ((8 : Nat) : Int)) := by
    rw [← hW0]; have := Boxed.new ((w.alloc (.cells (zrow startL 8 0) 77)).alloc (.cells (zrow startL 8 0) 77)) 3 (.int .i64 ((8 : Nat) : Int)); simp only [World.size_alloc] at this; exact this
  have b1 : Hid (Blk W0 (w.heap.size + 1) 77 (zrow startL 8 0)) := Lib.hid (by rw [← hW0]; exact Blk.alloc (heap_alloc2_new w _ _) _)
  have b0 : Hid (Blk W0 w.heap.size 77 (zrow startL 8 0)) := Lib.hid (by rw [← hW0]; exact Blk.alloc (heap_alloc2_old w _ _) _)
  have hB0 : Below w.heap.size w W0 := by rw [← hW0]; exact ba (ba (ba (Below.refl _ _) _) _) _
  clear hW0
  have eg : ∀ args w, (callFunc 68 args).run Try.prog w = .ok (.enter 68 args) w := enters_of Try.func68 (by kernel_rfl) rfl
  refine range_cells (n := 6) (w0 := W0) (by omega) (gf := 68) (lb := #[.pointer (some ⟨w.heap.size + 2, 0, none⟩)]) rfl eg (n₀ := w.heap.size) (by omega) (primes_hands 5 (by omega) (w.heap.size + 2) w.heap.size 8 18 (by omega) (by omega) (by rw [end8]; rfl) bef8 W0 bM) (Below.refl _ _) (StartI w) (fun _ _ _ => False) (StartI_kept w (by omega)) (fun _ _ _ _ _ h => h.elim) ⟨⟨b0, b1⟩, hB0⟩
    (fun x a' W => a' = { tmps := #[.pointer (some ⟨w.heap.size, 0, none⟩), .pointer (some ⟨w.heap.size + 1, 0, none⟩), .int .i64 (x.1 : Int), .int .u32 (x.2 : Int), .func (.func 68) #[] #[.pointer (some ⟨w.heap.size + 2, 0, none⟩)], .int .i64 (x.1 : Int), .int .u32 (x.2 : Int), undef, undef, undef, undef, undef], defers := [] })
    (fun x a' Y l o o' hs hl ho hc => hs)
    ?assign ?body ?done ?stop
  case assign =>
    rintro l pre x W K hI hK
    gi_wp2
    exact hK _ _ (KeepsFrom.refl _ _) ⟨Below.refl _ _, fun _ _ _ _ _ h => h⟩ hI rfl
  case body =>
    rintro l pre x a' W hl ⟨⟨h0, h1⟩, hB1⟩ rfl hlt
    obtain ⟨hx, hj⟩ := pairs_at _ _ _ _ hlt
    rw [end8] at hx
    have hw := wn_start pre.length hj
    have hlen : (pre ++ [x]).length = pre.length + 1 := by simp
    have hset := zrow_set startL 8 pre.length hj rfl
    have hat := zrow_at startL 8 pre.length hj rfl
    have hpl := pl_start pre.length
    rw [hw] at hset
    generalize hxe : x = x' at hx hlen ⊢
    clear hlt hxe hw
    subst hx
    have HLEN := Lib.hid hlen
    clear hlen
    have HI : Hid (∀ W', Hid (Blk W' w.heap.size 77 (zrow startL 8 0)) → Hid (Blk W' (w.heap.size + 1) 77 (zrow startL 8 (pre.length + 1))) → Below w.heap.size w W' → StartI w (pre ++ [(pre.length, wn (PR.take 8) pre.length)]) W') := Lib.hid (fun W' a b c => ⟨⟨a, by rw [HLEN.out]; exact b⟩, c⟩)
    generalize pre ++ [(pre.length, wn (PR.take 8) pre.length)] = pre2 at HI ⊢
    clear HLEN
    generalize wn (PR.take 8) pre.length = p at hset hpl HI ⊢
    generalize pre.length = j at h1 hj hset hat HI ⊢
    have HSET := Lib.hid hset
    have HAT := Lib.hid hat
    clear hset hat
    have z1 := hB1.size
    gi_wp2_with fail
    refine ⟨trivial, ?_⟩
    refine (CallsIn.inRound l (callsIn_wide.2 (sqrt_any p (by omega) _))).mono ?_
    rintro e W1 ⟨rfl, hb⟩
    have k0 := h0.out.below hb
    have k1 := h1.out.below hb
    have c1 := (k1.cell j).trans HAT.out
    have f1 := k1.frozen j
    have z2 := hb.size
    gi_wp2_with fail
    refine ⟨((keeps_below hb).trans (KeepsOthers.setCell _ _ _)).from _, (KpC.of_below hb z1).trans (KpC.setArr k1 (by decide) (by decide) (by omega) j _), HI.out _ (Lib.hid (k0.far (by simp) _)) (Lib.hid ?_) (bs (bt hB1 hb) (by omega) _)⟩
    have := k1.set_ j (wv (rootS p))
    rw [HSET.out] at this
    exact this
  case done =>
    rintro D W hD ⟨⟨h0, h1⟩, hB1⟩ hK
    have h1' : Hid (Blk W (w.heap.size + 1) 77 (startL.map wv).toArray) := Lib.hid (by have := h1.out; rw [pairs_len, zrow_all startL 8 rfl] at this; exact this)
    clear h1
    have hW := h0.out.whole (startL.map wv) rfl
    have HONE := Lib.hid (words_one startL)
    gi_wp2_with (first | (refine wpListIn_load_row rfl _ _ rfl _ rfl _ _ _ _ h1'.out Try.underlying77 rfl (by kernel_rfl) ?_) | (refine wpListIn_store_mid rfl _ _ _ rfl _ _ (startL.map wv).toArray rfl rfl (h0.out.there (by decide)) (by kernel_rfl) (all_oneCell_toArray HONE.out) ?_))
    have hKn : (W.setCells w.heap.size 0 (startL.map wv)).heap[D]? = some (.deferred (some [])) := (setCells_heap _ W w.heap.size 0 D (by omega)).trans hK
    refine ⟨by simp, .inl ⟨_, _, rfl, run_takeDeferred hKn, ?_⟩⟩
    have hW2 : ((W.setCells w.heap.size 0 (startL.map wv)).putObj D (.deferred none)).heap[w.heap.size]? = some (.cells (startL.map wv).toArray 77 (0, 0)) := (World.putObj_heap_other (by omega)).trans hW
    refine ⟨.agg (startL.map wv).toArray, results_cell_row rfl _ _ _ _ _ _ _ rfl hW2 Try.underlying77 rfl (by kernel_rfl), rfl, ?_⟩
    exact (bw hB1 (Nat.le_refl _) _ _).trans (belowK_b (w := w) (Nat.le_refl _) _ D _ _ (by omega) hKn rfl rfl)
  case stop =>
    rintro D c pre W hD hp h
    exact h.elim
end Go.Proofs.Ytilcondnpoinkaa
