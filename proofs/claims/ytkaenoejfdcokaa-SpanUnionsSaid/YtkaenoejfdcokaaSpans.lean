/- spans over any function that hands a row of ends on: the row of the spans, or the error where one would be all numbers. -/
import Derived.Test.YtkaenoejfdcokaaIter
import Derived.WalkSmall
namespace Go.Proofs.Ytkaenoejfdcokaa
open Go.RowKit Go.Shelf
attribute [local go_sem] Oper.semAt_some

def Whole (x : E64) : Prop := x.1.1 = 0 ∧ x.1.2 = 18446744073709551615
def spanCells (zs : List E64) : List Value := zs.flatMap fun x => [.int .u64 x.1.1, .int .u64 (x.1.2 - x.1.1 + 1)]
theorem spanCells_snoc (zs : List E64) (x : E64) : spanCells (zs ++ [x]) = spanCells zs ++ [.int .u64 x.1.1, .int .u64 (x.1.2 - x.1.1 + 1)] := by simp [spanCells]

/-- A block of two cells. -/
def Box2 (W : World) (B : Nat) (t : TypeId) (x y : Value) : Prop := W.heap[B]? = some (.cells #[x, y] t (0, 0))
theorem Box2.new (W : World) (t : TypeId) (x y : Value) : Box2 (W.alloc (.cells #[x, y] t)) W.heap.size t x y := World.alloc_heap_new W _
theorem Box2.lt {W : World} {B : Nat} {t : TypeId} {x y : Value} (h : Box2 W B t x y) : B < W.heap.size := (Array.getElem?_eq_some_iff.1 h).1
theorem Box2.cell0 {W : World} {B : Nat} {t : TypeId} {x y : Value} (h : Box2 W B t x y) : W.cell? ⟨B, 0, none⟩ = some x := by simp [World.cell?, show W.heap[B]? = _ from h]
theorem Box2.cell1 {W : World} {B : Nat} {t : TypeId} {x y : Value} (h : Box2 W B t x y) : W.cell? ⟨B, 1, none⟩ = some y := by simp [World.cell?, show W.heap[B]? = _ from h]
theorem Box2.kept {W W' : World} {row : Option Nat} {B : Nat} {t : TypeId} {x y : Value} (h : Box2 W B t x y) (hg : W.grownBy W' row) (hne : some B ≠ row) : Box2 W' B t x y := (hg.block B h.lt hne).trans h
theorem Box2.below {W W' : World} {B : Nat} {t : TypeId} {x y : Value} (h : Box2 W B t x y) (hb : Below W.heap.size W W') : Box2 W' B t x y := (hb.block B h.lt).trans h
theorem boxed_below {W W' : World} {B : Nat} {t : TypeId} {x : Value} (h : Boxed W B t x) (hb : Below W.heap.size W W') : Boxed W' B t x := (hb.block B h.lt).trans h
theorem ownsRow_below {W W' : World} {base : Nat} {e : TypeId} {size : Nat} {v : Value} {n : Nat} {xs : List Value} (h : W.ownsRow base e size v n xs) (hb : Below W.heap.size W W') : W'.ownsRow base e size v n xs := by
  obtain ⟨h1, h2⟩ := h
  refine ⟨h1, ?_⟩
  rcases h2 with h2 | ⟨g, cap, cur, hv, hg, hh, r⟩
  · exact Or.inl h2
  · exact Or.inr ⟨g, cap, cur, hv, hg, (hb.block g (Array.getElem?_eq_some_iff.1 hh).1).trans hh, r⟩
theorem keeps_below {W W' : World} (h : Below W.heap.size W W') : KeepsOthers W W' := ⟨h.size, fun k _ hk _ => (h.block k (Array.getElem?_eq_some_iff.1 hk).1).trans hk⟩

theorem ownsRow_slice {W : World} {base : Nat} {e : TypeId} {size : Nat} {v : Value} {n : Nat} {xs : List Value} (h : W.ownsRow base e size v n xs) : ∃ a k c, v = .slice a k c := by
  rcases h.2 with ⟨rfl, _⟩ | ⟨g, cap, cur, rfl, _⟩ <;> exact ⟨_, _, _, rfl⟩
/-- A store into a box of another type leaves an owned row. -/
theorem ownsRow_other {W : World} {base B : Nat} {e t : TypeId} {size : Nat} {v u : Value} {n : Nat} {xs : List Value} (h : W.ownsRow base e size v n xs) (hb : Boxed W B t u) (hte : t ≠ e) (x : Value) : (W.setCell ⟨B, 0, none⟩ x).ownsRow base e size v n xs :=
  h.kept (grownBy_setCell' W B x) (.inr (hb.not_row hte h).symm)

theorem info24 : (Try.prog.info? 24).map (fun i => (i.zero, i.size, i.bytes)) = some (some (.agg #[.int .u64 0, .int .u64 0]), 2, 16) := by kernel_rfl

theorem span_all (a b : Int) (w : World) (ha : a = 0) (hb : b = 18446744073709551615) :
    Calls Try.prog 31 #[.agg #[.int .u64 a, .int .u64 b]] w fun e w' => e = .returned (.tuple #[.agg #[.int .u64 0, .int .u64 0], .int .i64 2]) ∧ Below w.heap.size w w' := by
  subst ha hb
  exact span_whole w

/-- What spans leaves. -/
def SpansPost (w : World) (zs : List E64) (e : Ending) (w' : World) : Prop :=
  Below w.heap.size w w' ∧ ((∃ v, (∀ x ∈ zs, ¬ Whole x) ∧ e = .returned (.tuple #[v, .int .i64 0]) ∧ w'.ownsRow w.heap.size 24 2 v zs.length (spanCells zs)) ∨
    ((∃ x ∈ zs, Whole x) ∧ e = .returned (.tuple #[.slice none 0 0, .int .i64 2])))

/-- Between two rounds. -/
def SpansI (w : World) (pre : List E64) (W : World) : Prop :=
  (((∃ v, Boxed W (w.heap.size + 1 + 1) 34 v ∧ W.ownsRow w.heap.size 24 2 v pre.length (spanCells pre) ∧ (∀ x ∈ pre, ¬ Whole x)) ∧ Boxed W w.heap.size 34 (.slice none 0 0)) ∧ Boxed W (w.heap.size + 1) 25 (.int .i64 0)) ∧ Below w.heap.size w W
/-- A round has left. -/
def SpansX (w : World) (c : Code) (pre : List E64) (W : World) : Prop :=
  (((c = .ret ∧ ∃ x ∈ pre, Whole x) ∧ Boxed W w.heap.size 34 (.slice none 0 0)) ∧ Boxed W (w.heap.size + 1) 25 (.int .i64 2)) ∧ Below w.heap.size w W

set_option maxRecDepth 100000 in
set_option maxHeartbeats 2000000 in
theorem spans_any (gf : Nat) (lb : Array Value) (zs : List E64) (hlen : zs.length * 16 ≤ 140737488351232) (w : World)
    (eg : ∀ args w, (callFunc gf args).run Try.prog w = .ok (.enter gf args) w)
    (hH : Hands Fence.wide 5 gf lb w.heap.size zs w) :
    Calls Try.prog 32 #[.func (.func gf) #[] lb] w (SpansPost w zs) := by
  refine (callsIn_wide (n := 6)).1 ?_
  obtain ⟨i0, hi, hz0, hz1, hz2⟩ := info_parts info24
  refine callsIn_of_wp_marks Try.func32 rfl trivial ?_ rfl
  simp only [Try.ntmps32, List.size_toArray, List.length_cons, List.length_nil, Nat.reduceAdd, Nat.reduceSub, Array.replicate_succ, Array.replicate_zero, List.push_toArray, List.append_toArray, List.nil_append, List.cons_append]
  gi_wp2
  have bL := ((Boxed.new w 34 (.slice none 0 0)).alloc (.cells #[.int .i64 0] 25)).alloc (.cells #[.slice none 0 0] 34)
  have bE := (Boxed.new (w.alloc (.cells #[.slice none 0 0] 34)) 25 (.int .i64 0)).alloc (.cells #[.slice none 0 0] 34)
  have bO := Boxed.new ((w.alloc (.cells #[.slice none 0 0] 34)).alloc (.cells #[.int .i64 0] 25)) 34 (.slice none 0 0)
  simp only [World.size_alloc] at bE bO
  have hB0 : Below w.heap.size w (((w.alloc (.cells #[.slice none 0 0] 34)).alloc (.cells #[.int .i64 0] 25)).alloc (.cells #[.slice none 0 0] 34)) := ba (ba (ba (Below.refl _ _) _) _) _
  have hsz : (((w.alloc (.cells #[.slice none 0 0] 34)).alloc (.cells #[.int .i64 0] 25)).alloc (.cells #[.slice none 0 0] 34)).heap.size = w.heap.size + 3 := by simp
  obtain ⟨W0, hW0⟩ : ∃ W0, ((w.alloc (.cells #[.slice none 0 0] 34)).alloc (.cells #[.int .i64 0] 25)).alloc (.cells #[.slice none 0 0] 34) = W0 := ⟨_, rfl⟩
  rw [hW0] at bL bE bO hB0 hsz ⊢
  clear hW0
  refine wpIn_rangeFunc_ownH rfl (by omega) (gf := gf) (lb := lb) rfl trivial eg hH belowK_t (belowK_b (by omega)) hB0 (fun _ => rfl)
    (SpansI w) (SpansX w)
    (OwnFrom.and (OwnFrom.and (OwnFrom.and (Own.from (holdsRow_own w.heap.size (w.heap.size + 1 + 1) 34 24 2 (fun pre => pre.length) (fun pre => spanCells pre) (fun pre _ => ∀ x ∈ pre, ¬ Whole x)) _) (Own.from (boxed_own _ _ _) _)) (Own.from (boxed_own _ _ _) _)) (ownFrom_below (Nat.le_refl _) (by omega)))
    (fun c => OwnFrom.and (OwnFrom.and (OwnFrom.and (ownFrom_pure _ (fun pre => c = .ret ∧ ∃ x ∈ pre, Whole x)) (Own.from (boxed_own _ _ _) _)) (Own.from (boxed_own _ _ _) _)) (ownFrom_below (Nat.le_refl _) (by omega)))
    ⟨⟨⟨⟨_, bO, World.ownsRow_nil _ _ _ _, by simp⟩, bL⟩, bE⟩, hB0⟩
    (fun x a' W => ∃ Bx, w.heap.size + 1 + 1 < Bx ∧ Box2 W Bx 55 (.int .u64 x.1.1) (.int .u64 x.1.2) ∧ a' = { tmps := #[.func (.func gf) #[] lb, undef, .pointer (some ⟨w.heap.size, 0, none⟩), .pointer (some ⟨w.heap.size + 1, 0, none⟩), .pointer (some ⟨w.heap.size + 1 + 1, 0, none⟩), .pointer (some ⟨Bx, 0, none⟩), undef, undef, .func (.func gf) #[] lb, .agg #[.int .u64 x.1.1, .int .u64 x.1.2], undef, undef, undef, undef, undef, undef, undef, undef, undef, undef, undef, undef, undef], defers := [] })
    (fun x a' X Y Z row hs hg hr => by
      obtain ⟨Bx, h1, h2, h3⟩ := hs
      refine ⟨Bx, h1, h2.kept hg (fun e => ?_), h3⟩
      obtain ⟨_, o, ho, hc⟩ := hr Bx e.symm
      rw [show Y.heap[Bx]? = _ from h2] at ho; cases ho; cases hc)
    ?assign ?body ?done ?stop
  case assign =>
    rintro l pre x W K hI hK
    obtain ⟨⟨⟨⟨v, b3, b4, b5⟩, b6⟩, b7⟩, hB1⟩ := hI
    gi_wp2
    exact hK _ _ ((KeepsOthers.alloc _ _).from _) ((Below.refl _ W).alloc hB1.size _) ⟨⟨⟨⟨v, b3.alloc _, ownsRow_below b4 ((Below.refl _ _).alloc (Nat.le_refl _) _), b5⟩, b6.alloc _⟩, b7.alloc _⟩, hB1.alloc hB1.size _⟩ ⟨W.heap.size, b3.lt, Box2.new W _ _ _, rfl⟩
  case body =>
    rintro l pre x a' W hl ⟨r, hr⟩ hI ⟨Bx, hBx, bX, rfl⟩ hlt
    obtain ⟨⟨⟨⟨v, b3, b4, b5⟩, b6⟩, b7⟩, hB1⟩ := hI
    have x0 := bX.cell0
    have x1 := bX.cell1
    have hx := x.2
    by_cases hw : Whole x
    · gi_wp2_with fail
      refine ⟨trivial, ?_⟩
      refine (CallsIn.inRound l (callsIn_wide.2 (span_all x.1.1 x.1.2 _ hw.1 hw.2))).mono ?_
      rintro e W1 ⟨rfl, hb⟩
      have b3' := (boxed_below b3 hb)
      have b6' := (boxed_below b6 hb)
      have b7' := (boxed_below b7 hb)
      have c3 := b3'.cell
      have c6 := b6'.cell
      have d6 := b6'.frozen
      have c7 := b7'.cell
      have d7 := b7'.frozen
      have z := hB1.size
      have z1 := hb.size
      have z2 : w.heap.size + 1 < W1.heap.size := b7'.lt
      have z3 : w.heap.size < W1.heap.size := b6'.lt
      gi_wp2_with fail
      exact ⟨((keeps_below hb).trans ((KeepsOthers.setCell _ _ _).trans ((KeepsOthers.setCell _ _ _).trans (KeepsOthers.alloc _ _)))).from _,
        ⟨⟨⟨⟨rfl, x, by simp, hw⟩, ((b6'.set _).other (by omega) _).alloc _⟩, ((b7'.other (by omega) _).set _).alloc _⟩, ba (bs (bs (bt hB1 hb) (Nat.le_refl _) _) (by omega) _) _⟩⟩
    · gi_wp2_with fail
      refine ⟨trivial, ?_⟩
      refine (CallsIn.inRound l (callsIn_wide.2 (span_ok x.1.1 x.1.2 _ hx.1 hx.2.1 hx.2.2 (fun h1 h2 => hw ⟨h1, h2⟩)))).mono ?_
      rintro e W1 ⟨rfl, hb⟩
      have b3' := (boxed_below b3 hb)
      have b4' := (ownsRow_below b4 hb)
      have b6' := (boxed_below b6 hb)
      have b7' := (boxed_below b7 hb)
      have c3 := b3'.cell
      have z := hB1.size
      have z1 := hb.size
      have z2 : w.heap.size + 1 + 1 < W1.heap.size := b3'.lt
      have z3 : w.heap.size + 1 + 1 < W1.heap.size + 1 := by omega
      have hn2 := cell_two_new (W1.alloc (.cells #[.int .u64 x.1.1, .int .u64 (x.1.2 - x.1.1 + 1)] 24)) (.int .u64 x.1.1) (.int .u64 (x.1.2 - x.1.1 + 1)) 24
      rw [World.size_alloc] at hn2
      have hrow := ownsRow_below (ownsRow_below b4' ((Below.refl _ _).alloc (Nat.le_refl _) (.cells #[.int .u64 x.1.1, .int .u64 (x.1.2 - x.1.1 + 1)] 24))) ((Below.refl _ _).alloc (Nat.le_refl _) (.cells #[.int .u64 x.1.1, .int .u64 (x.1.2 - x.1.1 + 1)] 24))
      have b3a := b3'.alloc (.cells #[.int .u64 x.1.1, .int .u64 (x.1.2 - x.1.1 + 1)] 24)
      gi_wp2_with (gi_at_builtin; go_must (refine wpListIn_append_own _ rfl _ _ 34 rfl w.heap.size 24 i0 (.agg #[.int .u64 0, .int .u64 0]) 2 16 Try.underlying34 hi hz0 hz1 hz2 rfl (by decide) _ _ _ rfl hrow ⟨W1.heap.size + 1, 0, none⟩ 1 1 [.int .u64 x.1.1, .int .u64 (x.1.2 - x.1.1 + 1)] rfl rfl hn2 (by simp [Value.oneCell']) (by unfold maxLen; omega) (by omega) (by simp; omega) ?_); intro v' w1 hown' hgrow _; obtain ⟨g', cap', rfl⟩ := ownsRow_succ hown'; obtain ⟨hv1, hv2, hr2, hk2, hb2⟩ := b3a.appended (by decide) (ownsRow_below b4' ((Below.refl _ _).alloc (Nat.le_refl _) _)) (by simp; omega) (by omega) hown' hgrow; have hc1 := hv1.cell; have hf1 := hv1.frozen)
      have n6 := (b6'.alloc (.cells #[.int .u64 x.1.1, .int .u64 (x.1.2 - x.1.1 + 1)] 24)).alloc (.cells #[.int .u64 x.1.1, .int .u64 (x.1.2 - x.1.1 + 1)] 24)
      have n7 := (b7'.alloc (.cells #[.int .u64 x.1.1, .int .u64 (x.1.2 - x.1.1 + 1)] 24)).alloc (.cells #[.int .u64 x.1.1, .int .u64 (x.1.2 - x.1.1 + 1)] 24)
      have hbW : Below w.heap.size W (w1.setCell ⟨w.heap.size + 1 + 1, 0, none⟩ (.slice (some ⟨g', 0, none⟩) (pre.length + 1) cap')) := (hb.mono z).trans (((Below.refl _ W1).alloc (by omega) _).trans hb2)
      exact ⟨((keeps_below hb).trans ((KeepsOthers.alloc _ _).trans hk2)).from _, hbW,
        ⟨⟨⟨⟨_, hv2, by rw [spanCells_snoc]; simpa using hr2, fun y hy => (List.mem_append.1 hy).elim (b5 y) (fun h => by rw [List.mem_singleton.1 h]; exact hw)⟩, (n6.kept hgrow (n6.not_row (by decide) hrow)).other (by omega) _⟩, (n7.kept hgrow (n7.not_row (by decide) hrow)).other (by omega) _⟩, hB1.trans hbW⟩⟩
  case done =>
    rintro D zs' W hD hzs ⟨⟨⟨⟨v, b3, b4, b5⟩, b6⟩, b7⟩, hB1⟩ hK
    have hzs' : zs' = zs := hzs
    subst hzs'
    have c3 := b3.cell
    have c6 := b6.cell
    have d6 := b6.frozen
    have c7 := b7.cell
    have d7 := b7.frozen
    obtain ⟨va, vn, vc, rfl⟩ := ownsRow_slice b4
    gi_wp2
    have b6n := (b6.set (.slice va vn vc)).other (show w.heap.size ≠ w.heap.size + 1 by omega) (.int .i64 0)
    have b7n := (b7.other (show w.heap.size + 1 ≠ w.heap.size by omega) (.slice va vn vc)).set (.int .i64 0)
    have b4n := ownsRow_other (ownsRow_other b4 b6 (by decide) (.slice va vn vc)) (b7.other (show w.heap.size + 1 ≠ w.heap.size by omega) (.slice va vn vc)) (by decide) (.int .i64 0)
    have hKn := ((KeepsOthers.setCell W ⟨w.heap.size, 0, none⟩ (.slice va vn vc)).trans (KeepsOthers.setCell _ ⟨w.heap.size + 1, 0, none⟩ (.int .i64 0))).same D _ hK rfl
    have hBn : Below w.heap.size w _ := bs (bs hB1 (b := w.heap.size) (o := 0) (Nat.le_refl _) (.slice va vn vc)) (b := w.heap.size + 1) (o := 0) (by omega) (.int .i64 0)
    refine ⟨by simp, .inl ⟨_, _, rfl, run_takeDeferred hKn, ?_⟩⟩
    have e6 := cell_kept b6n.cell (grownBy_putObj' _ D (.deferred none)) (fun r e => by cases e; exact ⟨_, hKn, rfl⟩)
    have e7 := cell_kept b7n.cell (grownBy_putObj' _ D (.deferred none)) (fun r e => by cases e; exact ⟨_, hKn, rfl⟩)
    refine ⟨.tuple #[.slice va vn vc, .int .i64 0], by simp [results, Try.results32, go_sem, e6, e7], ?_⟩
    exact ⟨hBn.trans (belowK_b (w := w) (Nat.le_refl _) _ D _ _ (by omega) hKn rfl rfl), .inl ⟨_, b5, rfl, ownsRow_putObj b4n _ hKn rfl⟩⟩
  case stop =>
    rintro D c pre W hD hp ⟨⟨⟨⟨rfl, hx⟩, b6⟩, b7⟩, hB1⟩ hK
    have c6 := b6.cell
    have c7 := b7.cell
    gi_wp2
    refine ⟨by simp, .inl ⟨_, _, rfl, run_takeDeferred hK, ?_⟩⟩
    have e6 := cell_kept c6 (grownBy_putObj' W D (.deferred none)) (fun r e => by cases e; exact ⟨_, hK, rfl⟩)
    have e7 := cell_kept c7 (grownBy_putObj' W D (.deferred none)) (fun r e => by cases e; exact ⟨_, hK, rfl⟩)
    refine ⟨.tuple #[.slice none 0 0, .int .i64 2], by simp [results, Try.results32, go_sem, e6, e7], ?_⟩
    refine ⟨hB1.trans (belowK_b (w := w) (Nat.le_refl _) W D _ _ (by omega) hK rfl rfl), .inr ⟨?_, rfl⟩⟩
    obtain ⟨x, hx1, hx2⟩ := hx
    exact ⟨x, hp.subset hx1, hx2⟩
end Go.Proofs.Ytkaenoejfdcokaa
