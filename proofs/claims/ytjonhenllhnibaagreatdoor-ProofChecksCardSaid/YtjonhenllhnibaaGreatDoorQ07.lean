/- Texts of this seat, one behind the other: HPR, HArr, HNew, HWord, HSpread. -/
import Derived.Deep.MidRow
import Derived.Lib.SlBytesRow
import Derived.Test.YtjonhenllhnibaaGreatDoorQ01
import Derived.Test.YtjonhenllhnibaaGreatDoorQ03
import Derived.Test.YtjonhenllhnibaaGreatDoorQ06
/- The primes, and the numbers that the roots tell: reckoned. -/
namespace Go.Proofs.YtjonhenllhnibaaGreatDoor

/-- The first 64 primes. -/
def hPrimes : List Nat := [2, 3, 5, 7, 11, 13, 17, 19, 23, 29, 31, 37, 41, 43, 47, 53, 59, 61, 67, 71, 73, 79, 83, 89, 97, 101, 103, 107, 109, 113, 127, 131, 137, 139, 149, 151, 157, 163, 167, 173, 179, 181, 191, 193, 197, 199, 211, 223, 227, 229, 233, 239, 241, 251, 257, 263, 269, 271, 277, 281, 283, 293, 307, 311]
/-- A root, tried from the highest bit on. -/
def rootA (f : Nat → Bool) : Nat → Nat → Nat
  | 0, r => r
  | b + 1, r => bif f (r ||| 2 ^ b) then rootA f b (r ||| 2 ^ b) else rootA f b r
theorem rootA_is (f : Nat → Bool) (d : Nat) : ∀ k, k + d = 35 → rootA f d (rootN f k) = rootN f 35 := by
  induction d with
  | zero => intro k hk; obtain rfl : k = 35 := by omega
            rfl
  | succ d ih =>
    intro k hk
    have h := ih (k + 1) (by omega)
    rw [rootN, show 34 - k = d by omega] at h
    rw [rootA]
    by_cases hf : f (rootN f k ||| 2 ^ d) = true
    · rw [if_pos hf] at h
      rw [hf]
      exact h
    · rw [if_neg hf] at h
      rw [show f (rootN f k ||| 2 ^ d) = false by simpa using hf]
      exact h
theorem rootS_is (p : Nat) : rootS p = rootA (lessS p) 35 0 % 4294967296 := by rw [rootS, ← rootA_is (lessS p) 35 0 rfl]; rfl
theorem rootC_is (p : Nat) : rootC p = rootA (lessC p) 35 0 % 4294967296 := by rw [rootC, ← rootA_is (lessC p) 35 0 rfl]; rfl

/-- One step of the search. -/
def stepP (L : List Nat) (n : Nat) : List Nat := if hasF n L then L else L ++ [n]
theorem step_ok : ∀ j, j < 310 → stepP (hPrimes.filter fun x => decide (x < j + 2)) (j + 2) = hPrimes.filter fun x => decide (x < j + 3) := by decide +kernel
theorem lessAt_is (j : Nat) (h : j ≤ 310) : lessAt j = hPrimes.filter fun x => decide (x < j + 2) := by
  induction j with
  | zero => decide +kernel
  | succ j ih =>
    have e : lessAt (j + 1) = stepP (lessAt j) (j + 2) := rfl
    rw [e, ih (by omega), step_ok j (by omega)]
theorem bef64 : ∀ j, j < 310 → (lessAt j).length < 64 := fun j h => by
  have key : ∀ j, j < 310 → (hPrimes.filter fun x => decide (x < j + 2)).length < 64 := by decide +kernel
  rw [lessAt_is j (by omega)]; exact key j h
theorem end64 : lessAt 310 = hPrimes := by rw [lessAt_is 310 (Nat.le_refl _)]; decide +kernel
theorem bef8 : ∀ j, j < 18 → (lessAt j).length < 8 := fun j h => by
  have key : ∀ j, j < 18 → (hPrimes.filter fun x => decide (x < j + 2)).length < 8 := by decide +kernel
  rw [lessAt_is j (by omega)]; exact key j h
theorem end8 : lessAt 18 = hPrimes.take 8 := by rw [lessAt_is 18 (by omega)]; decide +kernel
theorem keys_ok : (hPrimes.map rootC) = hkeysL := by
  have e : hPrimes.map rootC = hPrimes.map fun p => rootA (lessC p) 35 0 % 4294967296 := List.map_congr_left fun p _ => rootC_is p
  rw [e]; decide +kernel
theorem start_ok : ((hPrimes.take 8).map rootS) = startL := by
  have e : (hPrimes.take 8).map rootS = (hPrimes.take 8).map fun p => rootA (lessS p) 35 0 % 4294967296 := List.map_congr_left fun p _ => rootS_is p
  rw [e]; decide +kernel
end Go.Proofs.YtjonhenllhnibaaGreatDoor
/- Arrays in memory: a block known whole, stored whole. -/
namespace Go.Proofs.YtjonhenllhnibaaGreatDoor
open Go.RowKit

theorem words_one (L : List Nat) : ∀ v ∈ L.map wv, v.oneCell' = true := by
  intro v hv
  obtain ⟨x, _, rfl⟩ := List.mem_map.1 hv
  rfl
end Go.Proofs.YtjonhenllhnibaaGreatDoor
/- The contracts of newKeys and firstState. -/
namespace Go.Proofs.YtjonhenllhnibaaGreatDoor
open Go.RowKit Go.Shelf
attribute [local go_sem] Oper.semAt_some

/-- So many numbers, and zeros behind them. -/
def zrow (L : List Nat) (m k : Nat) : Array Value := ((L.take k ++ List.replicate (m - k) 0).map wv).toArray
theorem zrow_set (L : List Nat) (m k : Nat) (h : k < m) (hl : L.length = m) : (zrow L m k).setIfInBounds k (wv (wn L k)) = zrow L m (k + 1) := by
  unfold zrow
  obtain ⟨r, hr⟩ : ∃ r, m - k = r + 1 := ⟨m - k - 1, by omega⟩
  have hr' : m - (k + 1) = r := by omega
  have hk : k < L.length := by omega
  rw [hr, hr', wn_get L k hk, ← List.take_append_getElem hk]
  have hl : (L.take k).length = k := by rw [List.length_take]; omega
  generalize L[k] = y
  generalize L.take k = S at hl
  subst hl
  simp [List.replicate_succ]
theorem zrow_all (L : List Nat) (m : Nat) (hl : L.length = m) : zrow L m m = (L.map wv).toArray := by
  unfold zrow
  rw [List.take_of_length_le (by omega)]
  simp
theorem zrow_at (L : List Nat) (m k : Nat) (h : k < m) (hl : L.length = m) : (zrow L m k)[k]? = some (wv 0) := by
  unfold zrow
  obtain ⟨r, hr⟩ : ∃ r, m - k = r + 1 := ⟨m - k - 1, by omega⟩
  have hl : (L.take k).length = k := by rw [List.length_take]; omega
  rw [hr]
  generalize L.take k = S at hl
  subst hl
  simp [List.replicate_succ]
theorem zrow_size (L : List Nat) (m k : Nat) (h : k ≤ m) (hl : L.length = m) : (zrow L m k).size = m := by
  simp [zrow]; omega
theorem pairs_at (P : List Nat) (m : Nat) (pre : List (Nat × Nat)) (x : Nat × Nat) (h : (pre ++ [x]) <+: pairs P m) : x = (pre.length, wn P pre.length) ∧ pre.length < m := by
  obtain ⟨r, hr⟩ := h
  have hl := congrArg List.length hr
  rw [pairs_len] at hl
  simp only [List.length_append, List.length_cons, List.length_nil] at hl
  have hlt : pre.length < m := by omega
  have hx : (pairs P m)[pre.length]? = some x := by rw [← hr]; simp
  rw [pairs, List.getElem?_map, List.getElem?_range hlt] at hx
  exact ⟨(Option.some.inj hx).symm, hlt⟩
theorem keepC {B : Nat} {W W' : World} {row : Option Nat} {k : Nat} {t : TypeId} {cs : Array Value} (hb : Blk W k t cs) (hg : W.grownBy W' row) (h : RowC B W row) (ht : t ≠ 79) : Blk W' k t cs :=
  h.cells hg hb rfl (fun c fr e => by cases e; exact ht rfl)
theorem KpC.setArr {n₀ B : Nat} {W : World} {t : TypeId} {cs : Array Value} (hb : Blk W B t cs) (h1 : t ≠ 79) (h2 : t ≠ 3) (hn : n₀ ≤ B) (i : Nat) (x : Value) : KpC n₀ W (W.setCell ⟨B, i, none⟩ x) := by
  refine ⟨(Below.refl n₀ W).setCell (p := ⟨B, i, none⟩) hn x, fun k c t' fr ht' hk => ?_⟩
  refine (Below.heap_setCell W ⟨B, i, none⟩ x k (fun e => ?_)).trans hk
  have e' : k = B := e
  subst e'
  rw [show W.heap[k]? = _ from hb] at hk
  cases hk
  rcases ht' with rfl | rfl
  · exact h1 rfl
  · exact h2 rfl
theorem wpListIn_load_row {F : Fence} {n' : Nat} {P : Program} {ops : Array Oper} {rest : List Oper} {o : Oper} {a : Act} {w : World} {Q : Exit → Act → World → Prop} (hgd : o.guard = none) (ty : TypeId) (x : Operand) (ho : o.op = .load ty x)
    (g : Nat) (hx : a.eval x = .pointer (some ⟨g, 0, none⟩)) (t : TypeId) (cs : Array Value) (fr : Nat × Nat) (d : TypeDesc) (hg : w.heap[g]? = some (.cells cs t fr))
    (hu : P.underlying ty = some d) (hd : (match d with | .struct _ | .array _ _ => true | _ => false) = true) (hi : (P.info? ty).map (·.size) = some cs.size)
    (h : wpListIn F n' P ops Q rest (a.put o.dst (.agg cs)) w) : wpListIn F n' P ops Q (o :: rest) a w := by
  refine wpListIn_plain hgd fun K hK => ?_
  unfold Oper.wpIn
  refine ⟨?_, ?_⟩
  · simp [Oper.about, ho]
  · rw [Oper.semAt_plain F _ _ (by rw [ho]; intro c hc'; cases hc')]
    simp only [execOp, ho, hx, Instr.loadAt, Instr.sureAddr, Sem.run_bind, Sem.run_pure, Result.andThen_ok, run_loadVar_row w g t ty cs fr d hg hu hd hi]
    exact hK _ _ h
theorem wpListIn_store_mid {F : Fence} {n' : Nat} {P : Program} {ops : Array Oper} {rest : List Oper} {op : Oper} {a : Act} {w : World} {Q : Exit → Act → World → Prop} (hgd : op.guard = none) (ty : TypeId) (x y : Operand) (ho : op.op = .store ty x y)
    (b o : Nat) (cells : Array Value) (hx : a.eval x = .pointer (some ⟨b, o, none⟩)) (hy : a.eval y = .agg cells)
    (ht : w.there b o cells.size) (hi : (P.info? ty).map (·.size) = some cells.size) (h1 : cells.all (·.oneCell') = true)
    (h : wpListIn F n' P ops Q rest (a.put op.dst undef) (w.setCells b o cells.toList)) : wpListIn F n' P ops Q (op :: rest) a w := by
  refine wpListIn_plain hgd fun K hK => ?_
  unfold Oper.wpIn
  refine ⟨?_, ?_⟩
  · simp [Oper.about, ho]
  · rw [Oper.semAt_plain F _ _ (by rw [ho]; intro c hc'; cases hc')]
    simp only [execOp, ho, hx, hy, Instr.storeAt, Instr.sureAddr, Sem.run_bind, Sem.run_pure, Result.andThen_ok, run_storeVar_mid w b o ty cells ht hi h1]
    exact hK _ _ h
theorem keeps_below {W W' : World} (h : Below W.heap.size W W') : KeepsOthers W W' := ⟨h.size, fun k _ hk _ => (h.block k (Array.getElem?_eq_some_iff.1 hk).1).trans hk⟩
theorem wn_map (L : List Nat) (f : Nat → Nat) (j : Nat) (h : j < L.length) : wn (L.map f) j = f (wn L j) := by
  rw [wn_get _ j (by simpa using h), wn_get _ j h]; simp
theorem wn_keys (j : Nat) (h : j < 64) : wn hkeysL j = rootC (wn hPrimes j) := by rw [← keys_ok]; exact wn_map hPrimes rootC j h
theorem wn_start (j : Nat) (h : j < 8) : wn startL j = rootS (wn (hPrimes.take 8) j) := by rw [← start_ok]; exact wn_map (hPrimes.take 8) rootS j h
theorem PR_lt : ∀ x ∈ hPrimes, x < 4294967296 := by decide +kernel
theorem pl_keys (j : Nat) : wn hPrimes j < 4294967296 := wn_lt PR_lt j
theorem pl_start (j : Nat) : wn (hPrimes.take 8) j < 4294967296 := wn_lt (fun x hx => PR_lt x (List.mem_of_mem_take hx)) j

/-- Between two rounds. -/
def KeysI (w : World) (pre : List (Nat × Nat)) (W : World) : Prop :=
  (Hid (Blk W w.heap.size 94 (zrow hkeysL 64 0)) ∧ Hid (Blk W (w.heap.size + 1) 94 (zrow hkeysL 64 pre.length))) ∧ Below w.heap.size w W
theorem KeysI_kept (w : World) {B : Nat} (hB : w.heap.size ≤ B) : KeptC B (KeysI w) := by
  rintro s W W' row ⟨⟨h1, h2⟩, h6⟩ hg hr
  exact ⟨⟨Lib.hid (keepC h1.out hg hr (by decide)), Lib.hid (keepC h2.out hg hr (by decide))⟩, h6.grown hg h6.size (fun k e => Nat.le_trans hB (hr k e).1)⟩

set_option maxRecDepth 100000 in
set_option maxHeartbeats 4000000 in
theorem keys_any (w : World) : Calls Tryz.prog 64 #[] w fun e w' => e = .returned (.agg (hkeysL.map wv).toArray) ∧ Below w.heap.size w w' := by
  refine (callsIn_wide (n := 6)).1 ?_
  refine callsIn_of_wp_marks Tryz.func64 rfl trivial ?_ rfl
  simp only [Tryz.ntmps64, List.size_toArray, List.length_nil, Nat.reduceSub, Array.replicate_succ, Array.replicate_zero, List.push_toArray, List.append_toArray, List.nil_append, List.cons_append]
  gi_wp2_with (refine ⟨trivial, ?_⟩; refine (callsIn_wide.2 (primes_any 64 _)).mono ?_; rintro e w' ⟨rfl, rfl⟩)
  generalize hW0 : World.alloc (World.alloc (World.alloc w _) _) _ = W0
  have z0 : W0.heap.size = w.heap.size + 3 := by rw [← hW0]; simp
  have bM : Boxed W0 (w.heap.size + 2) 3 (.int .i64 ((64 : Nat) : Int)) := by
    rw [← hW0]; have := Boxed.new ((w.alloc (.cells (zrow hkeysL 64 0) 94)).alloc (.cells (zrow hkeysL 64 0) 94)) 3 (.int .i64 ((64 : Nat) : Int)); simp only [World.size_alloc] at this; exact this
  have b1 : Hid (Blk W0 (w.heap.size + 1) 94 (zrow hkeysL 64 0)) := Lib.hid (by rw [← hW0]; exact Blk.alloc (heap_alloc2_new w _ _) _)
  have b0 : Hid (Blk W0 w.heap.size 94 (zrow hkeysL 64 0)) := Lib.hid (by rw [← hW0]; exact Blk.alloc (heap_alloc2_old w _ _) _)
  have hB0 : Below w.heap.size w W0 := by rw [← hW0]; exact ba (ba (ba (Below.refl _ _) _) _) _
  clear hW0
  have eg : ∀ args w, (callFunc 114 args).run Tryz.prog w = .ok (.enter 114 args) w := enters_of Tryz.func114 (by kernel_rfl) rfl
  refine range_cells (n := 6) (w0 := W0) (by omega) (gf := 114) (lb := #[.pointer (some ⟨w.heap.size + 2, 0, none⟩)]) rfl eg (n₀ := w.heap.size) (by omega) (primes_hands 5 (by omega) (w.heap.size + 2) w.heap.size 64 310 (by omega) (by omega) (by rw [end64]; rfl) bef64 W0 bM) (Below.refl _ _) (KeysI w) (fun _ _ _ => False) (KeysI_kept w (by omega)) (fun _ _ _ _ _ h => h.elim) ⟨⟨b0, b1⟩, hB0⟩
    (fun x a' W => a' = { tmps := #[.pointer (some ⟨w.heap.size, 0, none⟩), .pointer (some ⟨w.heap.size + 1, 0, none⟩), .int .i64 (x.1 : Int), .int .u32 (x.2 : Int), .func (.func 114) #[] #[.pointer (some ⟨w.heap.size + 2, 0, none⟩)], .int .i64 (x.1 : Int), .int .u32 (x.2 : Int), undef, undef, undef, undef, undef], defers := [] })
    (fun x a' Y l o o' hs hl ho hc => hs)
    ?assign ?body ?done ?stop
  case assign =>
    rintro l pre x W K hI hK
    gi_wp2
    exact hK _ _ (KeepsFrom.refl _ _) ⟨Below.refl _ _, fun _ _ _ _ _ h => h⟩ hI rfl
  case body =>
    rintro l pre x a' W hl ⟨⟨h0, h1⟩, hB1⟩ rfl hlt
    obtain ⟨hx, hj⟩ := pairs_at _ _ _ _ hlt
    rw [end64] at hx
    have hw := wn_keys pre.length hj
    have hlen : (pre ++ [x]).length = pre.length + 1 := by simp
    have hset := zrow_set hkeysL 64 pre.length hj rfl
    have hat := zrow_at hkeysL 64 pre.length hj rfl
    have hpl := pl_keys pre.length
    rw [hw] at hset
    generalize hxe : x = x' at hx hlen ⊢
    clear hlt hxe hw
    subst hx
    have HLEN := Lib.hid hlen
    clear hlen
    have HI : Hid (∀ W', Hid (Blk W' w.heap.size 94 (zrow hkeysL 64 0)) → Hid (Blk W' (w.heap.size + 1) 94 (zrow hkeysL 64 (pre.length + 1))) → Below w.heap.size w W' → KeysI w (pre ++ [(pre.length, wn (hPrimes) pre.length)]) W') := Lib.hid (fun W' a b c => ⟨⟨a, by rw [HLEN.out]; exact b⟩, c⟩)
    generalize pre ++ [(pre.length, wn (hPrimes) pre.length)] = pre2 at HI ⊢
    clear HLEN
    generalize wn (hPrimes) pre.length = p at hset hpl HI ⊢
    generalize pre.length = j at h1 hj hset hat HI ⊢
    have HSET := Lib.hid hset
    have HAT := Lib.hid hat
    clear hset hat
    have z1 := hB1.size
    gi_wp2_with fail
    refine ⟨trivial, ?_⟩
    refine (CallsIn.inRound l (callsIn_wide.2 (cbrt_any p (by omega) _))).mono ?_
    rintro e W1 ⟨rfl, hb⟩
    have k0 := h0.out.below hb
    have k1 := h1.out.below hb
    have c1 := (k1.cell j).trans HAT.out
    have f1 := k1.frozen j
    have z2 := hb.size
    gi_wp2_with fail
    refine ⟨((keeps_below hb).trans (KeepsOthers.setCell _ _ _)).from _, (KpC.of_below hb z1).trans (KpC.setArr k1 (by decide) (by decide) (by omega) j _), HI.out _ (Lib.hid (k0.far (by simp) _)) (Lib.hid ?_) (bs (bt hB1 hb) (by omega) _)⟩
    have := k1.set_ j (wv (rootC p))
    rw [HSET.out] at this
    exact this
  case done =>
    rintro D W hD ⟨⟨h0, h1⟩, hB1⟩ hK
    have h1' : Hid (Blk W (w.heap.size + 1) 94 (hkeysL.map wv).toArray) := Lib.hid (by have := h1.out; rw [pairs_len, zrow_all hkeysL 64 rfl] at this; exact this)
    clear h1
    have hW := h0.out.whole (hkeysL.map wv) rfl
    have HONE := Lib.hid (words_one hkeysL)
    gi_wp2_with (first | (refine wpListIn_load_row rfl _ _ rfl _ rfl _ _ _ _ h1'.out Tryz.underlying94 rfl (by kernel_rfl) ?_) | (refine wpListIn_store_mid rfl _ _ _ rfl _ _ (hkeysL.map wv).toArray rfl rfl (h0.out.there (by decide)) (by kernel_rfl) (all_oneCell_toArray HONE.out) ?_))
    have hKn : (W.setCells w.heap.size 0 (hkeysL.map wv)).heap[D]? = some (.deferred (some [])) := (setCells_heap _ W w.heap.size 0 D (by omega)).trans hK
    refine ⟨by simp, .inl ⟨_, _, rfl, run_takeDeferred hKn, ?_⟩⟩
    have hW2 : ((W.setCells w.heap.size 0 (hkeysL.map wv)).putObj D (.deferred none)).heap[w.heap.size]? = some (.cells (hkeysL.map wv).toArray 94 (0, 0)) := (World.putObj_heap_other (by omega)).trans hW
    refine ⟨.agg (hkeysL.map wv).toArray, results_cell_row rfl _ _ _ _ _ _ _ rfl hW2 Tryz.underlying94 rfl (by kernel_rfl), rfl, ?_⟩
    exact (bw hB1 (Nat.le_refl _) _ _).trans (belowK_b (w := w) (Nat.le_refl _) _ D _ _ (by omega) hKn rfl rfl)
  case stop =>
    rintro D c pre W hD hp h
    exact h.elim

/-- Between two rounds. -/
def StartI (w : World) (pre : List (Nat × Nat)) (W : World) : Prop :=
  (Hid (Blk W w.heap.size 97 (zrow startL 8 0)) ∧ Hid (Blk W (w.heap.size + 1) 97 (zrow startL 8 pre.length))) ∧ Below w.heap.size w W
theorem StartI_kept (w : World) {B : Nat} (hB : w.heap.size ≤ B) : KeptC B (StartI w) := by
  rintro s W W' row ⟨⟨h1, h2⟩, h6⟩ hg hr
  exact ⟨⟨Lib.hid (keepC h1.out hg hr (by decide)), Lib.hid (keepC h2.out hg hr (by decide))⟩, h6.grown hg h6.size (fun k e => Nat.le_trans hB (hr k e).1)⟩

set_option maxRecDepth 100000 in
set_option maxHeartbeats 4000000 in
theorem start_any (w : World) : Calls Tryz.prog 65 #[] w fun e w' => e = .returned (.agg (startL.map wv).toArray) ∧ Below w.heap.size w w' := by
  refine (callsIn_wide (n := 6)).1 ?_
  refine callsIn_of_wp_marks Tryz.func65 rfl trivial ?_ rfl
  simp only [Tryz.ntmps65, List.size_toArray, List.length_nil, Nat.reduceSub, Array.replicate_succ, Array.replicate_zero, List.push_toArray, List.append_toArray, List.nil_append, List.cons_append]
  gi_wp2_with (refine ⟨trivial, ?_⟩; refine (callsIn_wide.2 (primes_any 8 _)).mono ?_; rintro e w' ⟨rfl, rfl⟩)
  generalize hW0 : World.alloc (World.alloc (World.alloc w _) _) _ = W0
  have z0 : W0.heap.size = w.heap.size + 3 := by rw [← hW0]; simp
  have bM : Boxed W0 (w.heap.size + 2) 3 (.int .i64 ((8 : Nat) : Int)) := by
    rw [← hW0]; have := Boxed.new ((w.alloc (.cells (zrow startL 8 0) 97)).alloc (.cells (zrow startL 8 0) 97)) 3 (.int .i64 ((8 : Nat) : Int)); simp only [World.size_alloc] at this; exact this
  have b1 : Hid (Blk W0 (w.heap.size + 1) 97 (zrow startL 8 0)) := Lib.hid (by rw [← hW0]; exact Blk.alloc (heap_alloc2_new w _ _) _)
  have b0 : Hid (Blk W0 w.heap.size 97 (zrow startL 8 0)) := Lib.hid (by rw [← hW0]; exact Blk.alloc (heap_alloc2_old w _ _) _)
  have hB0 : Below w.heap.size w W0 := by rw [← hW0]; exact ba (ba (ba (Below.refl _ _) _) _) _
  clear hW0
  have eg : ∀ args w, (callFunc 114 args).run Tryz.prog w = .ok (.enter 114 args) w := enters_of Tryz.func114 (by kernel_rfl) rfl
  refine range_cells (n := 6) (w0 := W0) (by omega) (gf := 114) (lb := #[.pointer (some ⟨w.heap.size + 2, 0, none⟩)]) rfl eg (n₀ := w.heap.size) (by omega) (primes_hands 5 (by omega) (w.heap.size + 2) w.heap.size 8 18 (by omega) (by omega) (by rw [end8]; rfl) bef8 W0 bM) (Below.refl _ _) (StartI w) (fun _ _ _ => False) (StartI_kept w (by omega)) (fun _ _ _ _ _ h => h.elim) ⟨⟨b0, b1⟩, hB0⟩
    (fun x a' W => a' = { tmps := #[.pointer (some ⟨w.heap.size, 0, none⟩), .pointer (some ⟨w.heap.size + 1, 0, none⟩), .int .i64 (x.1 : Int), .int .u32 (x.2 : Int), .func (.func 114) #[] #[.pointer (some ⟨w.heap.size + 2, 0, none⟩)], .int .i64 (x.1 : Int), .int .u32 (x.2 : Int), undef, undef, undef, undef, undef], defers := [] })
    (fun x a' Y l o o' hs hl ho hc => hs)
    ?assign ?body ?done ?stop
  case assign =>
    rintro l pre x W K hI hK
    gi_wp2
    exact hK _ _ (KeepsFrom.refl _ _) ⟨Below.refl _ _, fun _ _ _ _ _ h => h⟩ hI rfl
  case body =>
    rintro l pre x a' W hl ⟨⟨h0, h1⟩, hB1⟩ rfl hlt
    obtain ⟨hx, hj⟩ := pairs_at _ _ _ _ hlt
    rw [end8] at hx
    have hw := wn_start pre.length hj
    have hlen : (pre ++ [x]).length = pre.length + 1 := by simp
    have hset := zrow_set startL 8 pre.length hj rfl
    have hat := zrow_at startL 8 pre.length hj rfl
    have hpl := pl_start pre.length
    rw [hw] at hset
    generalize hxe : x = x' at hx hlen ⊢
    clear hlt hxe hw
    subst hx
    have HLEN := Lib.hid hlen
    clear hlen
    have HI : Hid (∀ W', Hid (Blk W' w.heap.size 97 (zrow startL 8 0)) → Hid (Blk W' (w.heap.size + 1) 97 (zrow startL 8 (pre.length + 1))) → Below w.heap.size w W' → StartI w (pre ++ [(pre.length, wn (hPrimes.take 8) pre.length)]) W') := Lib.hid (fun W' a b c => ⟨⟨a, by rw [HLEN.out]; exact b⟩, c⟩)
    generalize pre ++ [(pre.length, wn (hPrimes.take 8) pre.length)] = pre2 at HI ⊢
    clear HLEN
    generalize wn (hPrimes.take 8) pre.length = p at hset hpl HI ⊢
    generalize pre.length = j at h1 hj hset hat HI ⊢
    have HSET := Lib.hid hset
    have HAT := Lib.hid hat
    clear hset hat
    have z1 := hB1.size
    gi_wp2_with fail
    refine ⟨trivial, ?_⟩
    refine (CallsIn.inRound l (callsIn_wide.2 (sqrt_any p (by omega) _))).mono ?_
    rintro e W1 ⟨rfl, hb⟩
    have k0 := h0.out.below hb
    have k1 := h1.out.below hb
    have c1 := (k1.cell j).trans HAT.out
    have f1 := k1.frozen j
    have z2 := hb.size
    gi_wp2_with fail
    refine ⟨((keeps_below hb).trans (KeepsOthers.setCell _ _ _)).from _, (KpC.of_below hb z1).trans (KpC.setArr k1 (by decide) (by decide) (by omega) j _), HI.out _ (Lib.hid (k0.far (by simp) _)) (Lib.hid ?_) (bs (bt hB1 hb) (by omega) _)⟩
    have := k1.set_ j (wv (rootS p))
    rw [HSET.out] at this
    exact this
  case done =>
    rintro D W hD ⟨⟨h0, h1⟩, hB1⟩ hK
    have h1' : Hid (Blk W (w.heap.size + 1) 97 (startL.map wv).toArray) := Lib.hid (by have := h1.out; rw [pairs_len, zrow_all startL 8 rfl] at this; exact this)
    clear h1
    have hW := h0.out.whole (startL.map wv) rfl
    have HONE := Lib.hid (words_one startL)
    gi_wp2_with (first | (refine wpListIn_load_row rfl _ _ rfl _ rfl _ _ _ _ h1'.out Tryz.underlying97 rfl (by kernel_rfl) ?_) | (refine wpListIn_store_mid rfl _ _ _ rfl _ _ (startL.map wv).toArray rfl rfl (h0.out.there (by decide)) (by kernel_rfl) (all_oneCell_toArray HONE.out) ?_))
    have hKn : (W.setCells w.heap.size 0 (startL.map wv)).heap[D]? = some (.deferred (some [])) := (setCells_heap _ W w.heap.size 0 D (by omega)).trans hK
    refine ⟨by simp, .inl ⟨_, _, rfl, run_takeDeferred hKn, ?_⟩⟩
    have hW2 : ((W.setCells w.heap.size 0 (startL.map wv)).putObj D (.deferred none)).heap[w.heap.size]? = some (.cells (startL.map wv).toArray 97 (0, 0)) := (World.putObj_heap_other (by omega)).trans hW
    refine ⟨.agg (startL.map wv).toArray, results_cell_row rfl _ _ _ _ _ _ _ rfl hW2 Tryz.underlying97 rfl (by kernel_rfl), rfl, ?_⟩
    exact (bw hB1 (Nat.le_refl _) _ _).trans (belowK_b (w := w) (Nat.le_refl _) _ D _ _ (by omega) hKn rfl rfl)
  case stop =>
    rintro D c pre W hD hp h
    exact h.elim
end Go.Proofs.YtjonhenllhnibaaGreatDoor
/- The contract of the code's word. -/
namespace Go.Proofs.YtjonhenllhnibaaGreatDoor
open Go.RowKit

theorem or4 (a b c d : Nat) (hb : b < 256) (hc : c < 256) (hd : d < 256) : (((a * 16777216) ||| (b * 65536)) ||| (c * 256)) ||| d = a * 16777216 + b * 65536 + c * 256 + d := by
  rw [nat_join 24 (a * 16777216) (b * 65536) (by omega) (by omega), nat_join 16 (a * 16777216 + b * 65536) (c * 256) (by omega) (by omega), nat_join 8 (a * 16777216 + b * 65536 + c * 256) d (by omega) (by omega)]

theorem or4_int (a b c d : Nat) (ha : a < 256) (hb : b < 256) (hc : c < 256) (hd : d < 256) :
    bits .or .u32 (bits .or .u32 (bits .or .u32 ((a : Int) * 16777216) ((b : Int) * 65536)) ((c : Int) * 256)) (d : Int) = ((a * 16777216 + b * 65536 + c * 256 + d : Nat) : Int) := by
  have h1 : (a * 16777216) ||| (b * 65536) < 2 ^ 32 := Nat.or_lt_two_pow (by omega) (by omega)
  have h2 : ((a * 16777216) ||| (b * 65536)) ||| (c * 256) < 2 ^ 32 := Nat.or_lt_two_pow h1 (by omega)
  rw [show (a : Int) * 16777216 = ((a * 16777216 : Nat) : Int) by simp, show (b : Int) * 65536 = ((b * 65536 : Nat) : Int) by simp, show (c : Int) * 256 = ((c * 256 : Nat) : Int) by simp]
  rw [u32_or_nat _ _ (by omega) (by omega), u32_or_nat _ _ h1 (by omega), u32_or_nat _ _ h2 (by omega), or4 a b c d hb hc hd]

set_option maxRecDepth 100000 in
set_option maxHeartbeats 1000000 in
theorem wordS_any (S : ByteArray) (hS : 4 ≤ S.size) (w : World) :
    Calls Tryz.prog 122 #[.string S] w fun e w' => e = .returned (.int .u32 ((S[0].toNat * 16777216 + S[1].toNat * 65536 + S[2].toNat * 256 + S[3].toNat : Nat) : Int)) ∧ ∃ q, w' = w.drewN q := by
  have i0 := index_is S 0 0 S[0] rfl (by simp)
  have i1 := index_is S 1 1 S[1] rfl (by simp)
  have i2 := index_is S 2 2 S[2] rfl (by simp)
  have i3 := index_is S 3 3 S[3] rfl (by simp)
  have u0 := S[0].toNat_lt
  have u1 := S[1].toNat_lt
  have u2 := S[2].toNat_lt
  have u3 := S[3].toNat_lt
  have hO := or4_int _ _ _ _ u0 u1 u2 u3
  obtain ⟨X, hX⟩ : ∃ X, S[0].toNat * 16777216 + S[1].toNat * 65536 + S[2].toNat * 256 + S[3].toNat = X := ⟨_, rfl⟩
  rw [hX] at hO ⊢
  generalize S[0].toNat = x0 at i0 u0 hO
  generalize S[1].toNat = x1 at i1 u1 hO
  generalize S[2].toNat = x2 at i2 u2 hO
  generalize S[3].toNat = x3 at i3 u3 hO
  have HO := Lib.hid hO
  clear hX hO
  have v0 : IntKind.u32.wrap ((x0 : Int) * 16777216) = (x0 : Int) * 16777216 := by rw [IntKind.wrap_u32]; omega
  have v1 : IntKind.u32.wrap ((x1 : Int) * 65536) = (x1 : Int) * 65536 := by rw [IntKind.wrap_u32]; omega
  have v2 : IntKind.u32.wrap ((x2 : Int) * 256) = (x2 : Int) * 256 := by rw [IntKind.wrap_u32]; omega
  go_enter Tryz.func122, Tryz.ntmps122
  go_wp2_with fail
  go_quiet (fail)
  go_wp2
  go_ret
  refine ⟨?_, _, rfl⟩
  rw [← HO.out]
  rfl
end Go.Proofs.YtjonhenllhnibaaGreatDoor
/- The contract of spread: a block's words. -/
namespace Go.Proofs.YtjonhenllhnibaaGreatDoor
open Go.RowKit

/-- So many of a block's words, and zeros behind them. -/
def srow (B : List UInt8) (t : Nat) : Array Value := ((sched B t ++ List.replicate (64 - t) 0).map wv).toArray
theorem srow_size (B : List UInt8) (t : Nat) (h : t ≤ 64) : (srow B t).size = 64 := by
  simp [srow, sched_len]; omega
theorem srow_set (B : List UInt8) (t x : Nat) (h : t < 64) (hx : x = (if t < 16 then wordAt B t else hnextW (sched B t) t)) : (srow B t).setIfInBounds t (wv x) = srow B (t + 1) := by
  unfold srow
  obtain ⟨r, hr⟩ : ∃ r, 64 - t = r + 1 := ⟨64 - t - 1, by omega⟩
  have hr' : 64 - (t + 1) = r := by omega
  have hl := sched_len B t
  rw [hr, hr', sched, ← hx]
  generalize sched B t = S at hl
  subst hl
  simp [List.replicate_succ]
theorem srow_at (B : List UInt8) (t : Nat) (h : t < 64) : (srow B t)[t]? = some (wv 0) := by
  unfold srow
  obtain ⟨r, hr⟩ : ∃ r, 64 - t = r + 1 := ⟨64 - t - 1, by omega⟩
  have hl := sched_len B t
  rw [hr]
  generalize sched B t = S at hl
  subst hl
  simp [List.replicate_succ]
theorem srow_old (B : List UInt8) (t j : Nat) (h : j < t) : (srow B t)[j]? = some (wv (wn (sched B t) j)) := by
  unfold srow
  have hl := sched_len B t
  have hj : j < (sched B t).length := by omega
  rw [wn_get _ _ hj]
  have hj' : j < ((sched B t).map wv).length := by simpa using hj
  rw [List.map_append, List.getElem?_toArray, List.getElem?_append_left hj', List.getElem?_map, List.getElem?_eq_getElem hj]
  rfl
theorem srow_all (B : List UInt8) : srow B 64 = ((sched B 64).map wv).toArray := by simp [srow]

theorem word_of (B : List UInt8) (t : Nat) (hB : B.length = 64) (ht : t < 16) (w : World) :
    Calls Tryz.prog 122 #[.string ((⟨B.toArray⟩ : ByteArray).extract (t * 4) 64)] w fun e w' => e = .returned (.int .u32 (wordAt B t : Nat)) ∧ ∃ q, w' = w.drewN q := by
  have hs : ((⟨B.toArray⟩ : ByteArray).extract (t * 4) 64) = ⟨(B.drop (t * 4)).toArray⟩ := by
    apply ByteArray.ext
    apply Array.toList_inj.1
    rw [Lib.extract_data]
    exact List.take_of_length_le (by simp [hB])
  obtain ⟨b0, b1, b2, b3, r, hr⟩ : ∃ b0 b1 b2 b3 r, B.drop (t * 4) = b0 :: b1 :: b2 :: b3 :: r := by
    have hl : (B.drop (t * 4)).length = 64 - t * 4 := by simp [hB]
    match h : B.drop (t * 4), hl with
    | b0 :: b1 :: b2 :: b3 :: r, _ => exact ⟨b0, b1, b2, b3, r, rfl⟩
    | [], hl => simp at hl; omega
    | [_], hl => simp at hl; omega
    | [_, _], hl => simp at hl; omega
    | [_, _, _], hl => simp at hl; omega
  have hat : ∀ j, B.getD (4 * t + j) 0 = (B.drop (t * 4)).getD j 0 := fun j => by simp [List.getD, Nat.mul_comm]
  have hw : wordAt B t = b0.toNat * 16777216 + b1.toNat * 65536 + b2.toNat * 256 + b3.toNat := by
    have h0 := hat 0
    have h1 := hat 1
    have h2 := hat 2
    have h3 := hat 3
    rw [hr] at h0 h1 h2 h3
    rw [Nat.add_zero] at h0
    unfold wordAt
    rw [h0, h1, h2, h3]
    rfl
  rw [hs, hr, hw]
  exact wordS_any ⟨(b0 :: b1 :: b2 :: b3 :: r).toArray⟩ (by simp [ByteArray.size]) w

theorem sigO_int (x : Nat) (h : x < 4294967296) : bits .xor .u32 (bits .xor .u32 ((ror x 7 : Nat) : Int) ((ror x 18 : Nat) : Int)) ((x : Int) / 8) = ((sigO x : Nat) : Int) := by
  rw [show (x : Int) / 8 = ((x / 8 : Nat) : Int) by simp, u32_xor_nat _ _ (ror_lt _ _ h) (ror_lt _ _ h), u32_xor_nat _ _ (xor_lt (ror_lt _ _ h) (ror_lt _ _ h)) (by omega)]
  rfl
theorem sigI_int (x : Nat) (h : x < 4294967296) : bits .xor .u32 (bits .xor .u32 ((ror x 17 : Nat) : Int) ((ror x 19 : Nat) : Int)) ((x : Int) / 1024) = ((sigI x : Nat) : Int) := by
  rw [show (x : Int) / 1024 = ((x / 1024 : Nat) : Int) by simp, u32_xor_nat _ _ (ror_lt _ _ h) (ror_lt _ _ h), u32_xor_nat _ _ (xor_lt (ror_lt _ _ h) (ror_lt _ _ h)) (by omega)]
  rfl
theorem cror_k (x n : Nat) (k : Int) (w : World) (hx : x < 4294967296) (hk : (n : Int) = k) (h1 : 1 ≤ n) (h2 : n ≤ 31) :
    Calls Tryz.prog 100 #[.int .u32 (x : Int), .int .i64 k] w fun e w' => e = .returned (.int .u32 (ror x n : Nat)) ∧ w = w' := by
  subst hk
  exact cror_any x n _ (by omega) h1 h2

set_option maxRecDepth 100000 in
set_option maxHeartbeats 4000000 in
theorem spread_any (B : List UInt8) (hB : B.length = 64) (w : World) :
    Calls Tryz.prog 99 #[.string ⟨B.toArray⟩] w fun e w' => e = .returned (.agg ((sched B 64).map wv).toArray) ∧ Below w.heap.size w w' := by
  have hz := size_of B
  rw [hB] at hz
  have HB := Lib.hid hB
  have HZ := Lib.hid hz
  have hcs : (srow B 64) = ((sched B 64).map wv).toArray := srow_all B
  have hsz : ((sched B 64).map wv).length = 64 := by rw [List.length_map, sched_len]
  have hone := words_one (sched B 64)
  obtain ⟨L, hL⟩ : ∃ L, (sched B 64).map wv = L := ⟨_, rfl⟩
  rw [hL] at hcs hsz hone ⊢
  have HSZ := Lib.hid hsz
  have HONE := Lib.hid hone
  have HCS := Lib.hid hcs
  clear hB hz hcs hsz hone hL
  go_enter Tryz.func99, Tryz.ntmps99
  go_wp2_with fail
  go_loopw [10] (fun iv wr => ∃ k : Nat, k ≤ 16 ∧ iv = .int .i64 k ∧ Blk wr (w.heap.size + 1) 93 (srow B k) ∧ Blk wr w.heap.size 93 (srow B 0) ∧ Below w.heap.size w wr) (fun iv _ => 16 - (intOf iv).toNat)
  case atStart => exact ⟨0, Nat.zero_le _, rfl, heap_alloc2_new w _ _, heap_alloc2_old w _ _, ba (ba (Below.refl _ _) _) _⟩
  case round =>
    obtain ⟨k, hk, rfl, hw1, hw0, hb⟩ := hrel
    by_cases hlt : k < 16
    · have HW := Lib.hid (word_of B k HB.out hlt wr)
      have HS := Lib.hid (srow_set B k (wordAt B k) (by omega) (by rw [if_pos hlt]))
      obtain ⟨x, hx⟩ : ∃ x, wordAt B k = x := ⟨_, rfl⟩
      rw [hx] at HW HS
      have H1 := Lib.hid hw1
      have H0 := Lib.hid hw0
      have hz := HZ.out
      clear hx hw1 hw0
      go_wp2_with fail
      refine HW.out.mono ?_
      rintro e w1 ⟨rfl, q, rfl⟩
      have hc := ((H1.out.drewN q).cell k).trans (srow_at B k (by omega))
      have hf := (H1.out.drewN q).frozen k
      go_wp2_with fail
      exact ⟨⟨k + 1, by omega, by go_num, by have := (H1.out.drewN q).set_ k (wv x); rw [HS.out] at this; exact this, (H0.out.drewN q).far (by simp) _, bs (bdn' hb q) (by omega) _⟩, by simp [intOf]; omega⟩
    · have hk16 : k = 16 := by omega
      rw [hk16] at hw1
      have HK := Lib.hid hk16
      obtain ⟨kk, hkk⟩ : ∃ kk, kk = k := ⟨_, rfl⟩
      rw [← hkk] at hlt hk HK ⊢
      clear hk16 hkk k
      go_wp2_with fail
      obtain ⟨wo, hwo⟩ : ∃ wo : World, wo = wr := ⟨_, rfl⟩
      go_loopw [5] (fun iv wr => ∃ k : Nat, 16 ≤ k ∧ k ≤ 64 ∧ iv = .int .i64 k ∧ Blk wr (w.heap.size + 1) 93 (srow B k) ∧ Blk wr w.heap.size 93 (srow B 0) ∧ Below w.heap.size w wr) (fun iv _ => 64 - (intOf iv).toNat)
      case atStart => exact ⟨16, by omega, by omega, rfl, hw1, hw0, hb⟩
      case round =>
        clear hw1 hw0 hb hwo
        obtain ⟨k, hk0, hk, rfl, hw1, hw0, hb⟩ := hrel
        by_cases hlt : k < 64
        · obtain ⟨m15, e15⟩ : ∃ m, k = m + 15 := ⟨k - 15, by omega⟩
          obtain ⟨m2, e2⟩ : ∃ m, k = m + 2 := ⟨k - 2, by omega⟩
          obtain ⟨m7, e7⟩ : ∃ m, k = m + 7 := ⟨k - 7, by omega⟩
          obtain ⟨m16, e16⟩ : ∃ m, k = m + 16 := ⟨k - 16, by omega⟩
          have hS := srow_set B k (hnextW (sched B k) k) hlt (by rw [if_neg (by omega)])
          have hat := srow_at B k hlt
          have o15 := srow_old B k m15 (by omega)
          have o2 := srow_old B k m2 (by omega)
          have o7 := srow_old B k m7 (by omega)
          have o16 := srow_old B k m16 (by omega)
          have l15 := wn_lt (sched_lt B k) m15
          have l2 := wn_lt (sched_lt B k) m2
          have l7 := wn_lt (sched_lt B k) m7
          have l16 := wn_lt (sched_lt B k) m16
          have hN : hnextW (sched B k) k = (sigI (wn (sched B k) m2) + wn (sched B k) m7 + sigO (wn (sched B k) m15) + wn (sched B k) m16) % 4294967296 := by
            unfold hnextW
            rw [show k - 2 = m2 by omega, show k - 7 = m7 by omega, show k - 15 = m15 by omega, show k - 16 = m16 by omega]
          rw [hN] at hS
          clear hN
          generalize wn (sched B k) m15 = a15 at hS o15 l15
          generalize wn (sched B k) m2 = a2 at hS o2 l2
          generalize wn (sched B k) m7 = a7 at hS o7 l7
          generalize wn (sched B k) m16 = a16 at hS o16 l16
          have hO := sigO_int a15 l15
          have hI := sigI_int a2 l2
          have lO := sigO_lt a15 l15
          have lI := sigI_lt a2 l2
          generalize sigO a15 = sO at hS hO lO
          generalize sigI a2 = sI at hS hI lI
          obtain ⟨x, hx⟩ : ∃ x, (sI + a7 + sO + a16) % 4294967296 = x := ⟨_, rfl⟩
          obtain ⟨y, hy⟩ : ∃ y, (sI + a7) % 4294967296 = y := ⟨_, rfl⟩
          obtain ⟨z, hzz⟩ : ∃ z, (y + sO) % 4294967296 = z := ⟨_, rfl⟩
          rw [hx] at hS
          have v1 : IntKind.u32.wrap ((sI : Int) + (a7 : Int)) = (y : Int) := by rw [IntKind.wrap_u32]; omega
          have v2 : IntKind.u32.wrap ((y : Int) + (sO : Int)) = (z : Int) := by rw [IntKind.wrap_u32]; omega
          have v3 : IntKind.u32.wrap ((z : Int) + (a16 : Int)) = (x : Int) := by rw [IntKind.wrap_u32]; omega
          have s15 : IntKind.i64.wrap ((k : Int) - 15) = (m15 : Int) := by rw [IntKind.wrap_i64]; omega
          have s2 : IntKind.i64.wrap ((k : Int) - 2) = (m2 : Int) := by rw [IntKind.wrap_i64]; omega
          have s7 : IntKind.i64.wrap ((k : Int) - 7) = (m7 : Int) := by rw [IntKind.wrap_i64]; omega
          have s16 : IntKind.i64.wrap ((k : Int) - 16) = (m16 : Int) := by rw [IntKind.wrap_i64]; omega
          have p15 : (0 : Int) ≤ (m15 : Int) := by omega
          have q15 : (m15 : Int) < 64 := by omega
          have p2 : (0 : Int) ≤ (m2 : Int) := by omega
          have q2 : (m2 : Int) < 64 := by omega
          have p7 : (0 : Int) ≤ (m7 : Int) := by omega
          have q7 : (m7 : Int) < 64 := by omega
          have p16 : (0 : Int) ≤ (m16 : Int) := by omega
          have q16 : (m16 : Int) < 64 := by omega
          have pk : (0 : Int) ≤ (k : Int) := by omega
          have qk : (k : Int) < 64 := by omega
          have c15 : wr.cell? ⟨w.heap.size + 1, m15, none⟩ = some (wv a15) := (hw1.cell _).trans o15
          have c2 : wr.cell? ⟨w.heap.size + 1, m2, none⟩ = some (wv a2) := (hw1.cell _).trans o2
          have HO := Lib.hid hO
          have HI := Lib.hid hI
          have HS := Lib.hid hS
          have V1 := Lib.hid v1
          have V2 := Lib.hid v2
          have V3 := Lib.hid v3
          have S7 := Lib.hid s7
          have S16 := Lib.hid s16
          have HAT := Lib.hid hat
          have O7 := Lib.hid o7
          have O16 := Lib.hid o16
          have H1 := Lib.hid hw1
          have H0 := Lib.hid hw0
          have n7 : m7 < k := by omega
          have n16 : m16 < k := by omega
          clear hO hI hS v1 v2 v3 s7 s16 hx hy hzz hat o15 o2 o7 o16 hw1 hw0 e15 e2 e7 e16
          go_wp2_with fail
          go_quiet (fail)
          clear c15 c2 s15 s2
          obtain ⟨w1, hw1⟩ := drewN_name wr nq
          rw [hw1]
          have G1 : Hid (Blk w1 (w.heap.size + 1) 93 (srow B k)) := Lib.hid (by rw [← hw1]; exact H1.out.drewN _)
          have G0 : Hid (Blk w1 w.heap.size 93 (srow B 0)) := Lib.hid (by rw [← hw1]; exact H0.out.drewN _)
          have hb1 : Below w.heap.size w w1 := by rw [← hw1]; exact bdn' hb _
          clear hw1 H1 H0
          have hO := HO.out
          have hI := HI.out
          go_wp2_with ((first | (with_reducible refine (cror_k a15 7 7 w1 l15 rfl (by omega) (by omega)).mono ?_) | (with_reducible refine (cror_k a15 18 18 w1 l15 rfl (by omega) (by omega)).mono ?_) | (with_reducible refine (cror_k a2 17 17 w1 l2 rfl (by omega) (by omega)).mono ?_) | (with_reducible refine (cror_k a2 19 19 w1 l2 rfl (by omega) (by omega)).mono ?_)); rintro e w' ⟨rfl, rfl⟩)
          clear hO hI
          have v1 := V1.out
          have v2 := V2.out
          have v3 := V3.out
          have s7 := S7.out
          have s16 := S16.out
          have c7 : w1.cell? ⟨w.heap.size + 1, m7, none⟩ = some (wv a7) := (G1.out.cell _).trans O7.out
          have c16 : w1.cell? ⟨w.heap.size + 1, m16, none⟩ = some (wv a16) := (G1.out.cell _).trans O16.out
          have ck : w1.cell? ⟨w.heap.size + 1, k, none⟩ = some (wv 0) := (G1.out.cell _).trans HAT.out
          have fk : w1.frozen? ⟨w.heap.size + 1, k, none⟩ = false := G1.out.frozen k
          have d7 : (w1.setCell ⟨w.heap.size + 1, k, none⟩ (.int .u32 (x : Int))).drew.cell? ⟨w.heap.size + 1, m7, none⟩ = some (wv a7) := (World.cell?_setCell_other w1 ⟨w.heap.size + 1, k, none⟩ ⟨w.heap.size + 1, m7, none⟩ (.int .u32 (x : Int)) (by simp <;> omega)).trans c7
          have d16 : (w1.setCell ⟨w.heap.size + 1, k, none⟩ (.int .u32 (x : Int))).drew.cell? ⟨w.heap.size + 1, m16, none⟩ = some (wv a16) := (World.cell?_setCell_other w1 ⟨w.heap.size + 1, k, none⟩ ⟨w.heap.size + 1, m16, none⟩ (.int .u32 (x : Int)) (by simp <;> omega)).trans c16
          go_region_held3 (fun W => W.cell? ⟨w.heap.size + 1, m7, none⟩ = some (wv a7) ∧ W.cell? ⟨w.heap.size + 1, m16, none⟩ = some (wv a16)) (first | exact ⟨c7, c16⟩ | exact ⟨d7, d16⟩ | assumption | go_keep) (fail)
          go_wp2_with fail
          exact ⟨⟨k + 1, by omega, by omega, by go_num, by have := (G1.out.set_ k (wv x)).drew; rw [HS.out] at this; exact this, (G0.out.far (by simp) _).drew, (bs hb1 (by omega) _).drew⟩, by simp [intOf]; omega⟩
        · obtain rfl : k = 64 := by omega
          rw [HCS.out] at hw1
          have H1 := Lib.hid hw1
          have H0 := Lib.hid hw0
          have HS0 := Lib.hid (srow_size B 0 (by omega))
          clear hw1 hw0
          go_wp2_with (first | (refine wpList_load_row rfl _ _ rfl _ rfl _ _ _ _ H1.out Tryz.underlying93 rfl (by rw [List.size_toArray, HSZ.out]; kernel_rfl) ?_) | (refine wpList_store_mid rfl _ _ _ rfl _ _ L.toArray rfl rfl (H0.out.there (by rw [List.size_toArray, HSZ.out, HS0.out]; exact Nat.le_refl _)) (by rw [List.size_toArray, HSZ.out]; kernel_rfl) (all_oneCell_toArray HONE.out) ?_))
          have hW := H0.out.whole L (by rw [HSZ.out, HS0.out])
          refine bodyPost_ret (v := .agg L.toArray) (results_cell_row rfl _ _ _ _ _ _ _ rfl hW Tryz.underlying93 rfl (by rw [List.size_toArray, HSZ.out]; kernel_rfl)) rfl ⟨rfl, bw hb (Nat.le_refl _) _ _⟩
end Go.Proofs.YtjonhenllhnibaaGreatDoor
