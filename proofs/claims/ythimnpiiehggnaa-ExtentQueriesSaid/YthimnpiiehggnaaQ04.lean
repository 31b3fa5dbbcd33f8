/- Texts of this seat, one behind the other: LessA, LessB, LessC, VOwn, Str. -/
import Derived.RangeFuncBox
import Derived.RangeFuncNested
import Derived.RangeFuncBound
import Derived.RangeFuncCalls
import Derived.RangeFuncLeaves
import Derived.Shelf.Abstract
import Derived.Shelf.RegionOpen
import Derived.Laws.MakeOwn
import Derived.Laws.OwnMore
import Derived.Deep.AppendLies
import Derived.Test.YthimnpiiehggnaaQ01
import Derived.Test.YthimnpiiehggnaaQ02
import Derived.Test.YthimnpiiehggnaaQ03
/- Less, for every input: what it hands back owns the cells of the list that lessL tells. -/
namespace Go.Proofs.Ythimnpiiehggnaa
open Go.RowKit Go.Shelf

theorem common_is (a b c d A B : Int) (w : World) (hA : A = max a c) (hB : B = min b d) :
    Calls Try.prog 52 #[.agg #[.int .u64 a, .int .u64 b], .agg #[.int .u64 c, .int .u64 d]] w fun e w' => e = .returned (.agg #[.int .u64 A, .int .u64 B]) ∧ Below w.heap.size w w' := by
  subst hA hB
  exact common_any a b c d w

theorem info55 : (Try.prog.info? 77).map (fun i => (i.zero, i.size, i.bytes)) = some (some (.agg #[.int .u64 0, .int .u64 0]), 2, 16) := by kernel_rfl
theorem enters42 : ∀ args w, (callFunc 62 args).run Try.prog w = .ok (.enter 62 args) w := enters_of Try.func62 (by kernel_rfl) rfl

/-- The cells of a list of pairs. -/
def rowCells (L : List (Int × Int)) : List Value := L.flatMap fun x => [.int .u64 x.1, .int .u64 x.2]
theorem rowCells_length (L : List (Int × Int)) : (rowCells L).length = L.length * 2 := by
  induction L with
  | nil => rfl
  | cons x L ih => simp only [rowCells, List.flatMap_cons, List.length_append, List.length_cons, List.length_nil] at ih ⊢; omega
theorem rowCells_at (L : List (Int × Int)) (j : Nat) (h : j < L.length) : (rowCells L)[j * 2]? = some (.int .u64 L[j].1) ∧ (rowCells L)[j * 2 + 1]? = some (.int .u64 L[j].2) := by
  induction L generalizing j with
  | nil => simp at h
  | cons x L ih =>
    cases j with
    | zero => simp [rowCells]
    | succ j =>
      have := ih j (by simpa using h)
      have e : rowCells (x :: L) = .int .u64 x.1 :: .int .u64 x.2 :: rowCells L := by simp [rowCells]
      rw [e, show (j + 1) * 2 = j * 2 + 1 + 1 by omega]
      simpa using this
def endPairs (zs : List E64) : List (Int × Int) := zs.map fun x => x.1
def spanPairs (zs : List E64) : List (Int × Int) := zs.map fun x => (x.1.1, x.1.2 - x.1.1 + 1)
theorem spanCells_eq (zs : List E64) : spanCells zs = rowCells (spanPairs zs) := by simp [spanCells, rowCells, spanPairs, List.flatMap_map]

/-- The cells of what a slice value owns. -/
theorem owned_cells {W : World} {base : Nat} {e : TypeId} {v : Value} {L : List (Int × Int)} (h : W.ownsRow base e 2 v L.length (rowCells L)) :
    (v = .slice none 0 0 ∧ L = []) ∨ ∃ g cap, v = .slice (some ⟨g, 0, none⟩) L.length cap ∧ g < W.heap.size ∧ base ≤ g ∧ L.length ≤ cap ∧ cap ≤ maxLen ∧ ∀ j (hj : j < L.length), W.cell? ⟨g, 0 + j * 2, none⟩ = some (.int .u64 L[j].1) ∧ W.cell? ⟨g, 0 + j * 2 + 1, none⟩ = some (.int .u64 L[j].2) := by
  obtain ⟨hl, h⟩ := h
  rcases h with ⟨rfl, h0⟩ | ⟨g, cap, cur, rfl, hg, hh, hle, hcap, hsz, htk⟩
  · exact .inl ⟨rfl, List.length_eq_zero_iff.1 h0⟩
  · refine .inr ⟨g, cap, rfl, (Array.getElem?_eq_some_iff.1 hh).1, hg, hle, hcap, fun j hj => ?_⟩
    obtain ⟨r0, r1⟩ := rowCells_at L j hj
    rw [← htk, List.getElem?_take] at r0 r1
    rw [if_pos (by omega)] at r0 r1
    simp only [Array.getElem?_toList] at r0 r1
    constructor
    · simp only [World.cell?, hh]; simpa using r0
    · simp only [World.cell?, hh]; simpa using r1

theorem endsOf_owned {W : World} {base : Nat} {e : TypeId} {v : Value} {zs : List E64} (h : W.ownsRow base e 2 v zs.length (rowCells (endPairs zs))) : EndsOf W.heap.size W v zs := by
  have hl : (endPairs zs).length = zs.length := by simp [endPairs]
  rw [← hl] at h
  rcases owned_cells h with ⟨rfl, h0⟩ | ⟨g, cap, rfl, hg, _, _, _, hc⟩
  · exact .inl ⟨rfl, by simpa [endPairs] using h0⟩
  · refine .inr ⟨g, 0, cap, by rw [hl], hg, fun j hj => ?_⟩
    have := hc j (by omega)
    simpa [endPairs] using this
theorem ownsRow_mono {W : World} {base base' : Nat} {e : TypeId} {size : Nat} {v : Value} {n : Nat} {xs : List Value} (h : W.ownsRow base e size v n xs) (hb : base' ≤ base) : W.ownsRow base' e size v n xs := by
  obtain ⟨h1, h2⟩ := h
  refine ⟨h1, h2.imp id ?_⟩
  rintro ⟨g, cap, cur, hv, hg, r⟩
  exact ⟨g, cap, cur, hv, by omega, r⟩
theorem nw_lo {x : E64} (h : x.1.1 ≠ 0) : ¬ Whole x := fun k => h k.1
theorem nw_hi {x : E64} (h : x.1.2 ≠ 18446744073709551615) : ¬ Whole x := fun k => h k.2
theorem nw0 : ∀ z ∈ ([] : List E64), ¬ Whole z := fun _ h => by cases h
theorem nw1 {x : E64} (hx : ¬ Whole x) : ∀ z ∈ [x], ¬ Whole z := fun z h => by rw [List.mem_singleton.1 h]; exact hx
theorem nw2 {x y : E64} (hx : ¬ Whole x) (hy : ¬ Whole y) : ∀ z ∈ [x, y], ¬ Whole z := fun z h => by
  rcases List.mem_cons.1 h with rfl | h
  · exact hx
  · exact nw1 hy z h
theorem ownsRow_from {W : World} {base : Nat} {e : TypeId} {size : Nat} {v : Value} {n : Nat} {xs : List Value} (h : W.ownsRow base e size v n xs) : ∀ k, v.ownBlock = some k → base ≤ k := by
  intro k hk
  rcases h.2 with ⟨rfl, _⟩ | ⟨g, cap, cur, rfl, hg, _⟩
  · cases hk
  · cases hk; exact hg
theorem below_grown {w W W' : World} (h : Below w.heap.size w W) (hg : W.grownBy W' none) : Below w.heap.size w W' := h.grown hg h.size (fun k e => by cases e)

/-- What Less of two spans that may be tells; A and B: the first and the last number of what they have in common. -/
def lessL (f n A B : Int) : List (Int × Int) :=
  if B < A then [(f, n)] else (if f < A then [(f, A - f)] else []) ++ (if B < f + (n - 1) then [(B + 1, f + (n - 1) - B)] else [])

theorem one_le_maxLen : 1 ≤ maxLen := by unfold maxLen; omega
/-- What Less leaves. -/
def LessPost (w : World) (L : List (Int × Int)) (e : Ending) (w' : World) : Prop :=
  ∃ v, e = .returned (.tuple #[v, .int .i64 0]) ∧ w'.ownsRow w.heap.size 37 2 v L.length (rowCells L) ∧ Below w.heap.size w w'

theorem hands_values {W : World} {base : Nat} {e : TypeId} {v : Value} {zs : List E64} (h : W.ownsRow base e 2 v zs.length (rowCells (endPairs zs))) (hreach : zs.length * 16 ≤ 140737488351232) :
    Hands Fence.wide 5 62 #[.pointer (some ⟨W.heap.size, 0, none⟩)] (W.alloc (.cells #[v] 82)).heap.size zs (W.alloc (.cells #[v] 82)) :=
  values_stops Fence.wide 5 trivial rfl (by omega) _ _ v zs hreach _ (by simp) (Nat.le_refl _) (Boxed.new _ _ _).cell (endsOf_owned (ownsRow_below h ((Below.refl _ _).alloc (Nat.le_refl _) _)))

/-- Its last two calls: slices.Values and spans over a row of ends, none of them all numbers. -/
theorem less_end {w W : World} {zs : List E64} {e : Ending} {w' : World} (hB : Below w.heap.size w W) (hn : ∀ x ∈ zs, ¬ Whole x) (h : SpansPost W zs e w') : LessPost w (spanPairs zs) e w' := by
  obtain ⟨hb, ⟨v, _, rfl, ho⟩ | ⟨⟨x, hx, hxw⟩, _⟩⟩ := h
  · refine ⟨v, rfl, ?_, bt hB hb⟩
    rw [← spanCells_eq]
    have hl : (spanPairs zs).length = zs.length := by simp [spanPairs]
    rw [hl]
    exact ownsRow_mono ho hB.size
  · exact absurd hxw (hn x hx)

end Go.Proofs.Ythimnpiiehggnaa
/- Less, for every input: the walks. -/
namespace Go.Proofs.Ythimnpiiehggnaa
open Go.RowKit Go.Shelf

set_option maxHeartbeats 2000000 in
set_option maxRecDepth 100000 in
theorem less_none (f n g m A B : Int) (w : World) (f0 : 0 ≤ f) (n1 : 1 ≤ n) (fn : f + n ≤ 18446744073709551616) (g0 : 0 ≤ g) (m1 : 1 ≤ m) (gm : g + m ≤ 18446744073709551616) (HA : Hid (A = max f g)) (HB : Hid (B = min (f + (n - 1)) (g + (m - 1)))) (hm : B < A) :
    Calls Try.prog 42 #[.agg #[.int .u64 f, .int .u64 n], .agg #[.int .u64 g, .int .u64 m]] w (LessPost w [(f, n)]) := by
  go_enter Try.func42, Try.ntmps42
  go_wp2_with fail
  refine (both_ok f n g m _ f0 n1 fn g0 m1 gm).mono ?_
  rintro e w1 ⟨rfl, hb⟩
  have P0 := At.later (v := .int .u64 f) (b := w.heap.size) (o := 0) ⟨by go_simp, by go_simp⟩ hb
  have P1 := At.later (v := .int .u64 n) (b := w.heap.size) (o := 1) ⟨by go_simp, by go_simp⟩ hb
  have z1 : w.heap.size + 1 < w1.heap.size := by have := hb.size; simp at this; omega
  go_wp2_with fail
  refine (common_is _ _ _ _ A B _ HA.out HB.out).mono ?_
  rintro e w2 ⟨rfl, hb2⟩
  have X0 := ((At.new w1 #[.int .u64 f, .int .u64 (f + (n - 1))] 77 (o := 0) (v := .int .u64 f) rfl).alloc (.cells #[.int .u64 g, .int .u64 (g + (m - 1))] 77)).later hb2
  have X1 := ((At.new w1 #[.int .u64 f, .int .u64 (f + (n - 1))] 77 (o := 1) (v := .int .u64 (f + (n - 1))) rfl).alloc (.cells #[.int .u64 g, .int .u64 (g + (m - 1))] 77)).later hb2
  have P2 := ((P0.alloc (.cells #[.int .u64 f, .int .u64 (f + (n - 1))] 77)).alloc (.cells #[.int .u64 g, .int .u64 (g + (m - 1))] 77)).later hb2
  have P3 := ((P1.alloc (.cells #[.int .u64 f, .int .u64 (f + (n - 1))] 77)).alloc (.cells #[.int .u64 g, .int .u64 (g + (m - 1))] 77)).later hb2
  have z2 : w1.heap.size + 1 < w2.heap.size := by have := hb2.size; simp at this; omega
  have hB2 : Below w.heap.size w w2 := bt (ba (ba (bt (ba (ba (Below.refl _ _) _) _) hb) _) _) hb2
  go_wp2_with fail
  refine (none_yes _ _ _ hm).mono ?_
  rintro e w3 ⟨rfl, hb3⟩
  obtain ⟨p0, _⟩ := (P2.alloc (.cells #[.int .u64 A, .int .u64 B] 77)).later hb3
  obtain ⟨p1, _⟩ := (P3.alloc (.cells #[.int .u64 A, .int .u64 B] 77)).later hb3
  have hB3 : Below w.heap.size w w3 := bt (ba hB2 _) hb3
  go_wp2
  go_ret2
  refine ⟨_, rfl, ?_, ba hB3 _⟩
  exact ⟨rfl, .inr ⟨w3.heap.size, 1, _, rfl, hB3.size, World.alloc_heap_new _ _, Nat.le_refl _, one_le_maxLen, rfl, rfl⟩⟩

set_option maxHeartbeats 2000000 in
set_option maxRecDepth 100000 in
theorem less_both (f n g m A B : Int) (w : World) (f0 : 0 ≤ f) (n1 : 1 ≤ n) (fn : f + n ≤ 18446744073709551616) (g0 : 0 ≤ g) (m1 : 1 ≤ m) (gm : g + m ≤ 18446744073709551616) (HA : Hid (A = max f g)) (HB : Hid (B = min (f + (n - 1)) (g + (m - 1)))) (hm : A ≤ B) (c1 : f < A) (c2 : B < f + (n - 1)) :
    Calls Try.prog 42 #[.agg #[.int .u64 f, .int .u64 n], .agg #[.int .u64 g, .int .u64 m]] w (LessPost w [(f, A - 1 - f + 1), (B + 1, f + (n - 1) - (B + 1) + 1)]) := by
  have hA1 : f ≤ A := by have := HA.out; omega
  have hB1 : B ≤ f + (n - 1) := by have := HB.out; omega
  obtain ⟨i1, hi, hz0, hz1, hz2⟩ := info_parts info55
  go_enter Try.func42, Try.ntmps42
  go_wp2_with fail
  refine (both_ok f n g m _ f0 n1 fn g0 m1 gm).mono ?_
  rintro e w1 ⟨rfl, hb⟩
  have P0 := At.later (v := .int .u64 f) (b := w.heap.size) (o := 0) ⟨by go_simp, by go_simp⟩ hb
  have P1 := At.later (v := .int .u64 n) (b := w.heap.size) (o := 1) ⟨by go_simp, by go_simp⟩ hb
  have z1 : w.heap.size + 1 < w1.heap.size := by have := hb.size; simp at this; omega
  go_wp2_with fail
  refine (common_is _ _ _ _ A B _ HA.out HB.out).mono ?_
  rintro e w2 ⟨rfl, hb2⟩
  have X0 := ((At.new w1 #[.int .u64 f, .int .u64 (f + (n - 1))] 77 (o := 0) (v := .int .u64 f) rfl).alloc (.cells #[.int .u64 g, .int .u64 (g + (m - 1))] 77)).later hb2
  have X1 := ((At.new w1 #[.int .u64 f, .int .u64 (f + (n - 1))] 77 (o := 1) (v := .int .u64 (f + (n - 1))) rfl).alloc (.cells #[.int .u64 g, .int .u64 (g + (m - 1))] 77)).later hb2
  have P2 := ((P0.alloc (.cells #[.int .u64 f, .int .u64 (f + (n - 1))] 77)).alloc (.cells #[.int .u64 g, .int .u64 (g + (m - 1))] 77)).later hb2
  have P3 := ((P1.alloc (.cells #[.int .u64 f, .int .u64 (f + (n - 1))] 77)).alloc (.cells #[.int .u64 g, .int .u64 (g + (m - 1))] 77)).later hb2
  have z2 : w1.heap.size + 1 < w2.heap.size := by have := hb2.size; simp at this; omega
  have hB2 : Below w.heap.size w w2 := bt (ba (ba (bt (ba (ba (Below.refl _ _) _) _) hb) _) _) hb2
  go_wp2_with fail
  refine (none_no _ _ _ hm).mono ?_
  rintro e w3 ⟨rfl, hb3⟩
  have x0k := (X0.alloc (.cells #[.int .u64 A, .int .u64 B] 77)).later hb3
  have x1k := (X1.alloc (.cells #[.int .u64 A, .int .u64 B] 77)).later hb3
  have y0k := (At.new w2 #[.int .u64 A, .int .u64 B] 77 (o := 0) (v := .int .u64 A) rfl).later hb3
  have y1k := (At.new w2 #[.int .u64 A, .int .u64 B] 77 (o := 1) (v := .int .u64 B) rfl).later hb3
  have z3 : w2.heap.size < w3.heap.size := by have := hb3.size; simp at this; omega
  have z4 : w1.heap.size < w3.heap.size := by omega
  have hB3 : Below w.heap.size w w3 := bt (ba hB2 _) hb3
  have x0 := x0k.1
  have x1 := x1k.1
  have y0 := y0k.1
  have y1 := y1k.1
  go_wp2_with (first | (at_builtin; refine wpList_append_own _ rfl (.tmp 33) (.tmp 40) 82 rfl w.heap.size 77 i1 (.agg #[.int .u64 0, .int .u64 0]) 2 16 Try.underlying82 hi hz0 hz1 hz2 rfl (by decide) _ _ _ rfl (World.ownsRow_nil _ _ _ _) ⟨w3.heap.size, 0, none⟩ 1 1 [.int .u64 f, .int .u64 (A - 1)] rfl rfl (cell_two_new _ _ _ _) (by simp [Value.oneCell']) (by unfold maxLen; omega) (by omega) (by have := hB3.size; simp; omega) ?_; intro v4 w4 hown4 hgrow4 _; obtain ⟨g4, cap4, rfl⟩ := ownsRow_succ hown4; have hgs : Below w3.heap.size w3 w4 := ((Below.refl _ _).alloc (Nat.le_refl _) _).grown hgrow4 (by simp) (fun k e => by cases e); have q0 := (x0k.later hgs).1; have q1 := (x1k.later hgs).1; have r0 := (y0k.later hgs).1; have r1 := (y1k.later hgs).1) | (at_builtin; refine wpList_append_own _ rfl (.tmp 47) (.tmp 54) 82 rfl w.heap.size 77 i1 (.agg #[.int .u64 0, .int .u64 0]) 2 16 Try.underlying82 hi hz0 hz1 hz2 rfl (by decide) _ _ _ rfl (ownsRow_below hown4 ((Below.refl _ _).alloc (Nat.le_refl _) _)) ⟨w4.heap.size, 0, none⟩ 1 1 [.int .u64 (B + 1), .int .u64 (f + (n - 1))] rfl rfl (cell_two_new _ _ _ _) (by simp [Value.oneCell']) (by unfold maxLen; omega) (by omega) (by have := hB3.size; have := hgs.size; simp; omega) ?_; intro v5 w5 hown5 hgrow5 _; obtain ⟨g5, cap5, rfl⟩ := ownsRow_succ hown5))
  have hB5 : Below w.heap.size w w5 := ((hB3.grown (row := none) ⟨hgs.os, hgs.tape, hgs.output, hgs.size, fun k hk _ => hgs.block k hk⟩ hB3.size (fun k e => by cases e)).alloc (Nat.le_trans hB3.size hgs.size) _).grown hgrow5 (by have := hB3.size; have := hgs.size; simp; omega) (ownsRow_from hown4)
  refine (values_any _ _ _ _).mono ?_
  rintro e w8 ⟨rfl, rfl⟩
  have hH := hands_values (zs := [⟨(f, A - 1), by omega, by show f ≤ A - 1; omega, by show A - 1 ≤ _; omega⟩, ⟨(B + 1, f + (n - 1)), by show 0 ≤ B + 1; omega, by show B + 1 ≤ f + (n - 1); omega, by show f + (n - 1) ≤ _; omega⟩]) hown5 (by simp)
  go_wp2_with fail
  refine (spans_any _ _ _ (by simp) _ enters42 hH).mono ?_
  rintro e w9 hS
  obtain ⟨v9, rfl, ho, hb9⟩ := less_end (ba (hB5) _) (nw2 (nw_hi (show A - 1 ≠ _ by omega)) (nw_lo (show B + 1 ≠ 0 by omega))) hS
  obtain ⟨va, vn, vc, rfl⟩ := ownsRow_slice ho
  go_wp2
  go_ret2
  exact ⟨_, rfl, ho, hb9⟩

set_option maxHeartbeats 2000000 in
set_option maxRecDepth 100000 in
theorem less_left (f n g m A B : Int) (w : World) (f0 : 0 ≤ f) (n1 : 1 ≤ n) (fn : f + n ≤ 18446744073709551616) (g0 : 0 ≤ g) (m1 : 1 ≤ m) (gm : g + m ≤ 18446744073709551616) (HA : Hid (A = max f g)) (HB : Hid (B = min (f + (n - 1)) (g + (m - 1)))) (hm : A ≤ B) (c1 : f < A) (c2 : f + (n - 1) ≤ B) :
    Calls Try.prog 42 #[.agg #[.int .u64 f, .int .u64 n], .agg #[.int .u64 g, .int .u64 m]] w (LessPost w [(f, A - 1 - f + 1)]) := by
  have hA1 : f ≤ A := by have := HA.out; omega
  have hB1 : B ≤ f + (n - 1) := by have := HB.out; omega
  obtain ⟨i1, hi, hz0, hz1, hz2⟩ := info_parts info55
  go_enter Try.func42, Try.ntmps42
  go_wp2_with fail
  refine (both_ok f n g m _ f0 n1 fn g0 m1 gm).mono ?_
  rintro e w1 ⟨rfl, hb⟩
  have P0 := At.later (v := .int .u64 f) (b := w.heap.size) (o := 0) ⟨by go_simp, by go_simp⟩ hb
  have P1 := At.later (v := .int .u64 n) (b := w.heap.size) (o := 1) ⟨by go_simp, by go_simp⟩ hb
  have z1 : w.heap.size + 1 < w1.heap.size := by have := hb.size; simp at this; omega
  go_wp2_with fail
  refine (common_is _ _ _ _ A B _ HA.out HB.out).mono ?_
  rintro e w2 ⟨rfl, hb2⟩
  have X0 := ((At.new w1 #[.int .u64 f, .int .u64 (f + (n - 1))] 77 (o := 0) (v := .int .u64 f) rfl).alloc (.cells #[.int .u64 g, .int .u64 (g + (m - 1))] 77)).later hb2
  have X1 := ((At.new w1 #[.int .u64 f, .int .u64 (f + (n - 1))] 77 (o := 1) (v := .int .u64 (f + (n - 1))) rfl).alloc (.cells #[.int .u64 g, .int .u64 (g + (m - 1))] 77)).later hb2
  have P2 := ((P0.alloc (.cells #[.int .u64 f, .int .u64 (f + (n - 1))] 77)).alloc (.cells #[.int .u64 g, .int .u64 (g + (m - 1))] 77)).later hb2
  have P3 := ((P1.alloc (.cells #[.int .u64 f, .int .u64 (f + (n - 1))] 77)).alloc (.cells #[.int .u64 g, .int .u64 (g + (m - 1))] 77)).later hb2
  have z2 : w1.heap.size + 1 < w2.heap.size := by have := hb2.size; simp at this; omega
  have hB2 : Below w.heap.size w w2 := bt (ba (ba (bt (ba (ba (Below.refl _ _) _) _) hb) _) _) hb2
  go_wp2_with fail
  refine (none_no _ _ _ hm).mono ?_
  rintro e w3 ⟨rfl, hb3⟩
  have x0k := (X0.alloc (.cells #[.int .u64 A, .int .u64 B] 77)).later hb3
  have x1k := (X1.alloc (.cells #[.int .u64 A, .int .u64 B] 77)).later hb3
  have y0k := (At.new w2 #[.int .u64 A, .int .u64 B] 77 (o := 0) (v := .int .u64 A) rfl).later hb3
  have y1k := (At.new w2 #[.int .u64 A, .int .u64 B] 77 (o := 1) (v := .int .u64 B) rfl).later hb3
  have z3 : w2.heap.size < w3.heap.size := by have := hb3.size; simp at this; omega
  have z4 : w1.heap.size < w3.heap.size := by omega
  have hB3 : Below w.heap.size w w3 := bt (ba hB2 _) hb3
  have x0 := x0k.1
  have x1 := x1k.1
  have y0 := y0k.1
  have y1 := y1k.1
  go_wp2_with ((at_builtin; refine wpList_append_own _ rfl (.tmp 33) (.tmp 40) 82 rfl w.heap.size 77 i1 (.agg #[.int .u64 0, .int .u64 0]) 2 16 Try.underlying82 hi hz0 hz1 hz2 rfl (by decide) _ _ _ rfl (World.ownsRow_nil _ _ _ _) ⟨w3.heap.size, 0, none⟩ 1 1 [.int .u64 f, .int .u64 (A - 1)] rfl rfl (cell_two_new _ _ _ _) (by simp [Value.oneCell']) (by unfold maxLen; omega) (by omega) (by have := hB3.size; simp; omega) ?_; intro v4 w4 hown4 hgrow4 _; obtain ⟨g4, cap4, rfl⟩ := ownsRow_succ hown4; have hgs : Below w3.heap.size w3 w4 := ((Below.refl _ _).alloc (Nat.le_refl _) _).grown hgrow4 (by simp) (fun k e => by cases e); have q0 := (x0k.later hgs).1; have q1 := (x1k.later hgs).1; have r0 := (y0k.later hgs).1; have r1 := (y1k.later hgs).1))
  have hB4 : Below w.heap.size w w4 := ((hB3.grown (row := none) ⟨hgs.os, hgs.tape, hgs.output, hgs.size, fun k hk _ => hgs.block k hk⟩ hB3.size (fun k e => by cases e)))
  refine (values_any _ _ _ _).mono ?_
  rintro e w8 ⟨rfl, rfl⟩
  have hH := hands_values (zs := [⟨(f, A - 1), by omega, by show f ≤ A - 1; omega, by show A - 1 ≤ _; omega⟩]) hown4 (by simp)
  go_wp2_with fail
  refine (spans_any _ _ _ (by simp) _ enters42 hH).mono ?_
  rintro e w9 hS
  obtain ⟨v9, rfl, ho, hb9⟩ := less_end (ba (hB4) _) (nw1 (nw_hi (show A - 1 ≠ _ by omega))) hS
  obtain ⟨va, vn, vc, rfl⟩ := ownsRow_slice ho
  go_wp2
  go_ret2
  exact ⟨_, rfl, ho, hb9⟩

set_option maxHeartbeats 2000000 in
set_option maxRecDepth 100000 in
theorem less_right (f n g m A B : Int) (w : World) (f0 : 0 ≤ f) (n1 : 1 ≤ n) (fn : f + n ≤ 18446744073709551616) (g0 : 0 ≤ g) (m1 : 1 ≤ m) (gm : g + m ≤ 18446744073709551616) (HA : Hid (A = max f g)) (HB : Hid (B = min (f + (n - 1)) (g + (m - 1)))) (hm : A ≤ B) (c1 : A ≤ f) (c2 : B < f + (n - 1)) :
    Calls Try.prog 42 #[.agg #[.int .u64 f, .int .u64 n], .agg #[.int .u64 g, .int .u64 m]] w (LessPost w [(B + 1, f + (n - 1) - (B + 1) + 1)]) := by
  have hA1 : f ≤ A := by have := HA.out; omega
  have hB1 : B ≤ f + (n - 1) := by have := HB.out; omega
  obtain ⟨i1, hi, hz0, hz1, hz2⟩ := info_parts info55
  go_enter Try.func42, Try.ntmps42
  go_wp2_with fail
  refine (both_ok f n g m _ f0 n1 fn g0 m1 gm).mono ?_
  rintro e w1 ⟨rfl, hb⟩
  have P0 := At.later (v := .int .u64 f) (b := w.heap.size) (o := 0) ⟨by go_simp, by go_simp⟩ hb
  have P1 := At.later (v := .int .u64 n) (b := w.heap.size) (o := 1) ⟨by go_simp, by go_simp⟩ hb
  have z1 : w.heap.size + 1 < w1.heap.size := by have := hb.size; simp at this; omega
  go_wp2_with fail
  refine (common_is _ _ _ _ A B _ HA.out HB.out).mono ?_
  rintro e w2 ⟨rfl, hb2⟩
  have X0 := ((At.new w1 #[.int .u64 f, .int .u64 (f + (n - 1))] 77 (o := 0) (v := .int .u64 f) rfl).alloc (.cells #[.int .u64 g, .int .u64 (g + (m - 1))] 77)).later hb2
  have X1 := ((At.new w1 #[.int .u64 f, .int .u64 (f + (n - 1))] 77 (o := 1) (v := .int .u64 (f + (n - 1))) rfl).alloc (.cells #[.int .u64 g, .int .u64 (g + (m - 1))] 77)).later hb2
  have P2 := ((P0.alloc (.cells #[.int .u64 f, .int .u64 (f + (n - 1))] 77)).alloc (.cells #[.int .u64 g, .int .u64 (g + (m - 1))] 77)).later hb2
  have P3 := ((P1.alloc (.cells #[.int .u64 f, .int .u64 (f + (n - 1))] 77)).alloc (.cells #[.int .u64 g, .int .u64 (g + (m - 1))] 77)).later hb2
  have z2 : w1.heap.size + 1 < w2.heap.size := by have := hb2.size; simp at this; omega
  have hB2 : Below w.heap.size w w2 := bt (ba (ba (bt (ba (ba (Below.refl _ _) _) _) hb) _) _) hb2
  go_wp2_with fail
  refine (none_no _ _ _ hm).mono ?_
  rintro e w3 ⟨rfl, hb3⟩
  have x0k := (X0.alloc (.cells #[.int .u64 A, .int .u64 B] 77)).later hb3
  have x1k := (X1.alloc (.cells #[.int .u64 A, .int .u64 B] 77)).later hb3
  have y0k := (At.new w2 #[.int .u64 A, .int .u64 B] 77 (o := 0) (v := .int .u64 A) rfl).later hb3
  have y1k := (At.new w2 #[.int .u64 A, .int .u64 B] 77 (o := 1) (v := .int .u64 B) rfl).later hb3
  have z3 : w2.heap.size < w3.heap.size := by have := hb3.size; simp at this; omega
  have z4 : w1.heap.size < w3.heap.size := by omega
  have hB3 : Below w.heap.size w w3 := bt (ba hB2 _) hb3
  have x0 := x0k.1
  have x1 := x1k.1
  have y0 := y0k.1
  have y1 := y1k.1
  go_wp2_with ((at_builtin; refine wpList_append_own _ rfl (.tmp 47) (.tmp 54) 82 rfl w.heap.size 77 i1 (.agg #[.int .u64 0, .int .u64 0]) 2 16 Try.underlying82 hi hz0 hz1 hz2 rfl (by decide) _ _ _ rfl (World.ownsRow_nil _ _ _ _) ⟨w3.heap.size, 0, none⟩ 1 1 [.int .u64 (B + 1), .int .u64 (f + (n - 1))] rfl rfl (cell_two_new _ _ _ _) (by simp [Value.oneCell']) (by unfold maxLen; omega) (by omega) (by have := hB3.size; simp; omega) ?_; intro v4 w4 hown4 hgrow4 _; obtain ⟨g4, cap4, rfl⟩ := ownsRow_succ hown4; have hgs : Below w3.heap.size w3 w4 := ((Below.refl _ _).alloc (Nat.le_refl _) _).grown hgrow4 (by simp) (fun k e => by cases e)))
  have hB4 : Below w.heap.size w w4 := ((hB3.grown (row := none) ⟨hgs.os, hgs.tape, hgs.output, hgs.size, fun k hk _ => hgs.block k hk⟩ hB3.size (fun k e => by cases e)))
  refine (values_any _ _ _ _).mono ?_
  rintro e w8 ⟨rfl, rfl⟩
  have hH := hands_values (zs := [⟨(B + 1, f + (n - 1)), by show 0 ≤ B + 1; omega, by show B + 1 ≤ f + (n - 1); omega, by show f + (n - 1) ≤ _; omega⟩]) hown4 (by simp)
  go_wp2_with fail
  refine (spans_any _ _ _ (by simp) _ enters42 hH).mono ?_
  rintro e w9 hS
  obtain ⟨v9, rfl, ho, hb9⟩ := less_end (ba (hB4) _) (nw1 (nw_lo (show B + 1 ≠ 0 by omega))) hS
  obtain ⟨va, vn, vc, rfl⟩ := ownsRow_slice ho
  go_wp2
  go_ret2
  exact ⟨_, rfl, ho, hb9⟩

set_option maxHeartbeats 2000000 in
set_option maxRecDepth 100000 in
theorem less_nil (f n g m A B : Int) (w : World) (f0 : 0 ≤ f) (n1 : 1 ≤ n) (fn : f + n ≤ 18446744073709551616) (g0 : 0 ≤ g) (m1 : 1 ≤ m) (gm : g + m ≤ 18446744073709551616) (HA : Hid (A = max f g)) (HB : Hid (B = min (f + (n - 1)) (g + (m - 1)))) (hm : A ≤ B) (c1 : A ≤ f) (c2 : f + (n - 1) ≤ B) :
    Calls Try.prog 42 #[.agg #[.int .u64 f, .int .u64 n], .agg #[.int .u64 g, .int .u64 m]] w (LessPost w []) := by
  have hA1 : f ≤ A := by have := HA.out; omega
  have hB1 : B ≤ f + (n - 1) := by have := HB.out; omega
  go_enter Try.func42, Try.ntmps42
  go_wp2_with fail
  refine (both_ok f n g m _ f0 n1 fn g0 m1 gm).mono ?_
  rintro e w1 ⟨rfl, hb⟩
  have P0 := At.later (v := .int .u64 f) (b := w.heap.size) (o := 0) ⟨by go_simp, by go_simp⟩ hb
  have P1 := At.later (v := .int .u64 n) (b := w.heap.size) (o := 1) ⟨by go_simp, by go_simp⟩ hb
  have z1 : w.heap.size + 1 < w1.heap.size := by have := hb.size; simp at this; omega
  go_wp2_with fail
  refine (common_is _ _ _ _ A B _ HA.out HB.out).mono ?_
  rintro e w2 ⟨rfl, hb2⟩
  have X0 := ((At.new w1 #[.int .u64 f, .int .u64 (f + (n - 1))] 77 (o := 0) (v := .int .u64 f) rfl).alloc (.cells #[.int .u64 g, .int .u64 (g + (m - 1))] 77)).later hb2
  have X1 := ((At.new w1 #[.int .u64 f, .int .u64 (f + (n - 1))] 77 (o := 1) (v := .int .u64 (f + (n - 1))) rfl).alloc (.cells #[.int .u64 g, .int .u64 (g + (m - 1))] 77)).later hb2
  have P2 := ((P0.alloc (.cells #[.int .u64 f, .int .u64 (f + (n - 1))] 77)).alloc (.cells #[.int .u64 g, .int .u64 (g + (m - 1))] 77)).later hb2
  have P3 := ((P1.alloc (.cells #[.int .u64 f, .int .u64 (f + (n - 1))] 77)).alloc (.cells #[.int .u64 g, .int .u64 (g + (m - 1))] 77)).later hb2
  have z2 : w1.heap.size + 1 < w2.heap.size := by have := hb2.size; simp at this; omega
  have hB2 : Below w.heap.size w w2 := bt (ba (ba (bt (ba (ba (Below.refl _ _) _) _) hb) _) _) hb2
  go_wp2_with fail
  refine (none_no _ _ _ hm).mono ?_
  rintro e w3 ⟨rfl, hb3⟩
  have x0k := (X0.alloc (.cells #[.int .u64 A, .int .u64 B] 77)).later hb3
  have x1k := (X1.alloc (.cells #[.int .u64 A, .int .u64 B] 77)).later hb3
  have y0k := (At.new w2 #[.int .u64 A, .int .u64 B] 77 (o := 0) (v := .int .u64 A) rfl).later hb3
  have y1k := (At.new w2 #[.int .u64 A, .int .u64 B] 77 (o := 1) (v := .int .u64 B) rfl).later hb3
  have z3 : w2.heap.size < w3.heap.size := by have := hb3.size; simp at this; omega
  have z4 : w1.heap.size < w3.heap.size := by omega
  have hB3 : Below w.heap.size w w3 := bt (ba hB2 _) hb3
  have x0 := x0k.1
  have x1 := x1k.1
  have y0 := y0k.1
  have y1 := y1k.1
  go_wp2_with fail
  refine (values_any _ _ _ _).mono ?_
  rintro e w8 ⟨rfl, rfl⟩
  have hH := hands_values (zs := []) (World.ownsRow_nil w3 w.heap.size 77 2) (by simp)
  go_wp2_with fail
  refine (spans_any _ _ _ (by simp) _ enters42 hH).mono ?_
  rintro e w9 hS
  obtain ⟨v9, rfl, ho, hb9⟩ := less_end (ba (hB3) _) nw0 hS
  obtain ⟨va, vn, vc, rfl⟩ := ownsRow_slice ho
  go_wp2
  go_ret2
  exact ⟨_, rfl, ho, hb9⟩

end Go.Proofs.Ythimnpiiehggnaa
/- Less of any two spans that may be. -/
namespace Go.Proofs.Ythimnpiiehggnaa
open Go.RowKit Go.Shelf

/-- Less of two spans that may be, for every such two. -/
theorem less_any (f n g m A B : Int) (w : World) (f0 : 0 ≤ f) (n1 : 1 ≤ n) (fn : f + n ≤ 18446744073709551616) (g0 : 0 ≤ g) (m1 : 1 ≤ m) (gm : g + m ≤ 18446744073709551616) (HA : Hid (A = max f g)) (HB : Hid (B = min (f + (n - 1)) (g + (m - 1)))) :
    Calls Try.prog 42 #[.agg #[.int .u64 f, .int .u64 n], .agg #[.int .u64 g, .int .u64 m]] w (LessPost w (lessL f n A B)) := by
  have e1 : A - 1 - f + 1 = A - f := by omega
  have e2 : f + (n - 1) - (B + 1) + 1 = f + (n - 1) - B := by omega
  unfold lessL
  by_cases hm : B < A
  · rw [if_pos hm]
    exact less_none f n g m A B w f0 n1 fn g0 m1 gm HA HB hm
  · rw [if_neg hm]
    by_cases c1 : f < A
    · rw [if_pos c1]
      by_cases c2 : B < f + (n - 1)
      · rw [if_pos c2]
        have := less_both f n g m A B w f0 n1 fn g0 m1 gm HA HB (by omega) c1 c2
        rw [e1, e2] at this
        exact this
      · rw [if_neg c2]
        have := less_left f n g m A B w f0 n1 fn g0 m1 gm HA HB (by omega) c1 (by omega)
        rw [e1] at this
        exact this
    · rw [if_neg c1]
      by_cases c2 : B < f + (n - 1)
      · rw [if_pos c2]
        have := less_right f n g m A B w f0 n1 fn g0 m1 gm HA HB (by omega) (by omega) c2
        rw [e2] at this
        exact this
      · rw [if_neg c2]
        exact less_nil f n g m A B w f0 n1 fn g0 m1 gm HA HB (by omega) (by omega) (by omega)

set_option maxHeartbeats 1000000 in
theorem less_bad (f n g m e : Int) (w : World) (f0 : 0 ≤ f) (f1 : f ≤ 18446744073709551615) (n1 : n ≤ 18446744073709551615) (g0 : 0 ≤ g) (g1 : g ≤ 18446744073709551615) (m1 : m ≤ 18446744073709551615) (h : Bad2 f n g m e) (e1 : 1 ≤ e) :
    Calls Try.prog 42 #[.agg #[.int .u64 f, .int .u64 n], .agg #[.int .u64 g, .int .u64 m]] w fun e' w' => e' = .returned (.tuple #[.slice none 0 0, .int .i64 e]) ∧ Below w.heap.size w w' := by
  go_enter Try.func42, Try.ntmps42
  go_wp2_with fail
  refine (both_bad f n g m e _ f0 f1 n1 g0 g1 m1 h e1).mono ?_
  rintro e' w1 ⟨rfl, hb⟩
  go_wp2
  go_ret2
  exact ⟨rfl, ba (ba (bt (ba (ba (Below.refl _ _) _) _) hb) _) _⟩

end Go.Proofs.Ythimnpiiehggnaa
/- A row that the call owns, kept where its block is; blocks behind the loop's record. Nothing of any function. -/
namespace Go.Proofs.Ythimnpiiehggnaa
open Go.RowKit Go.Shelf

theorem vown_kept {W W' : World} {base : Nat} {e : TypeId} {size : Nat} {v : Value} {n : Nat} {xs : List Value} (h : W.ownsRow base e size v n xs) (hk : ∀ k, v.ownBlock = some k → W'.heap[k]? = W.heap[k]?) : W'.ownsRow base e size v n xs := by
  refine ⟨h.1, ?_⟩
  rcases h.2 with h2 | ⟨g, cap, cur, hv, hg, hh, r⟩
  · exact Or.inl h2
  · exact Or.inr ⟨g, cap, cur, hv, hg, (hk g (by rw [hv]; rfl)).trans hh, r⟩
theorem vown_blk {W : World} {base : Nat} {e : TypeId} {size : Nat} {v : Value} {n : Nat} {xs : List Value} (h : W.ownsRow base e size v n xs) (k : Nat) (hk : v.ownBlock = some k) : base ≤ k ∧ ∃ cs, Blk W k e cs := by
  rcases h.2 with ⟨h2, _⟩ | ⟨g, cap, cur, hv, hg, hh, r⟩
  · rw [h2] at hk; cases hk
  · rw [hv] at hk
    cases hk
    exact ⟨hg, cur, hh⟩
theorem vown_ne {w : World} {g : Nat} {t : TypeId} {cs : Array Value} {base : Nat} {e : TypeId} {size n : Nat} {v : Value} {xs : List Value} (h : w.ownsRow base e size v n xs) (hg : Blk w g t cs) (hne : e ≠ t) : v.ownBlock ≠ some g := by
  intro he
  obtain ⟨_, cs2, hb⟩ := vown_blk h g he
  have h9 : some (Obj.cells cs t (0, 0)) = some (Obj.cells cs2 e (0, 0)) := (show w.heap[g]? = _ from hg).symm.trans hb
  injection h9 with h9
  injection h9 with _ h9
  exact hne h9.symm
theorem vkeeps_grown {B : Nat} {W W' : World} {row : Option Nat} (h : W.grownBy W' row) (hr : ∀ k, row = some k → ∃ t cs, Blk W k t cs) : KeepsFrom B W W' :=
  (show KeepsOthers W W' from ⟨h.size, fun k o hk hc => (h.block k (Array.getElem?_eq_some_iff.1 hk).1 (fun e => by
    obtain ⟨t, cs, hb⟩ := hr k e.symm
    rw [show W.heap[k]? = _ from hb] at hk
    cases hk
    cases hc)).trans hk⟩).from _
theorem vblk_putObj {W : World} {g D : Nat} {t : TypeId} {cs : Array Value} {o o' : Obj} (hb : Blk W g t cs) (hD : W.heap[D]? = some o) (ho : o.isCells = false) : Blk (W.putObj D o') g t cs :=
  (World.putObj_heap_other (fun e => by
    subst e
    rw [show W.heap[g]? = _ from hb] at hD
    cases hD
    cases ho)).trans hb

end Go.Proofs.Ythimnpiiehggnaa
/- Words for slices of strings: what can be read of one, and one that the call made. Nothing of any function. -/
namespace Go.Proofs.Ythimnpiiehggnaa
open Go.RowKit

/-- A string's cell. -/
abbrev sv (x : List UInt8) : Value := .string ⟨x.toArray⟩
/-- A row of strings that can be read: where it lies, if it has any. -/
def SR (w : World) (A : Option Addr) (L : List (List UInt8)) : Prop :=
  ∀ j, j < L.length → ∃ g off, A = some ⟨g, off, none⟩ ∧ w.cell? ⟨g, off + j, none⟩ = some (sv (L.getD j []))
theorem SR.later {w w' : World} {A : Option Addr} {L : List (List UInt8)} (h : SR w A L) (hb : Below w.heap.size w w') : SR w' A L := fun j hj => by
  obtain ⟨g, off, e, h0⟩ := h j hj
  exact ⟨g, off, e, cell_later hb h0⟩
theorem SR.drew {w : World} {A : Option Addr} {L : List (List UInt8)} (h : SR w A L) : SR w.drew A L := h
theorem SR.drewN {w : World} {A : Option Addr} {L : List (List UInt8)} (h : SR w A L) (n : Nat) : SR (w.drewN n) A L := h
theorem SR.nil (w : World) (A : Option Addr) : SR w A [] := fun j hj => absurd hj (by simp)
theorem getD_take {α : Type} (L : List α) (m j : Nat) (d : α) (h : j < m) : (L.take m).getD j d = L.getD j d := by
  simp only [List.getD, List.getElem?_take, h, if_true]
theorem SR.take {w : World} {A : Option Addr} {L : List (List UInt8)} (h : SR w A L) (m : Nat) : SR w A (L.take m) := fun j hj => by
  rw [List.length_take] at hj
  obtain ⟨g, off, e, h0⟩ := h j (by omega)
  exact ⟨g, off, e, by rw [getD_take _ _ _ _ (by omega)]; exact h0⟩
theorem getD_drop {α : Type} (L : List α) (m j : Nat) (d : α) : (L.drop m).getD j d = L.getD (m + j) d := by simp [List.getD]
/-- The row from a place on. -/
theorem SR.drop {w : World} {g off : Nat} {L : List (List UInt8)} (h : SR w (some ⟨g, off, none⟩) L) (m : Nat) : SR w (some ⟨g, off + m, none⟩) (L.drop m) := fun j hj => by
  rw [List.length_drop] at hj
  obtain ⟨g', off', e, h0⟩ := h (m + j) (by omega)
  obtain ⟨rfl, rfl⟩ : g = g' ∧ off = off' := by injection e with e; injection e with e1 e2; exact ⟨e1, e2⟩
  exact ⟨g, off + m, rfl, by rw [getD_drop, Nat.add_assoc]; exact h0⟩
theorem svs_at (L : List (List UInt8)) (j : Nat) (h : j < L.length) : (L.map sv)[j]? = some (sv (L.getD j [])) := by
  simp [List.getD, h]
theorem own_SR {W : World} {base g c n : Nat} {L : List (List UInt8)} (h : W.ownsRow base 9 1 (.slice (some ⟨g, 0, none⟩) n c) n (L.map sv)) (hl : L.length = n) : SR W (some ⟨g, 0, none⟩) L := fun j hj =>
  ⟨g, 0, rfl, by rw [Nat.zero_add, h.cellAt j (by omega), svs_at L j hj]⟩
theorem own_form {W : World} {base : Nat} {e : TypeId} {size : Nat} {v : Value} {n : Nat} {xs : List Value} (h : W.ownsRow base e size v n xs) : ∃ A c, v = .slice A n c ∧ ((A = none ∧ n = 0 ∧ c = 0) ∨ ∃ g, A = some ⟨g, 0, none⟩ ∧ n ≤ c ∧ c ≤ maxLen ∧ base ≤ g) := by
  rcases h.2 with ⟨rfl, rfl⟩ | ⟨g, cap, cur, rfl, hb, _, hn, hc, _⟩
  · exact ⟨none, 0, rfl, .inl ⟨rfl, rfl, rfl⟩⟩
  · exact ⟨_, cap, rfl, .inr ⟨g, rfl, hn, hc, hb⟩⟩
theorem own_SR' {W : World} {base : Nat} {A : Option Addr} {n c : Nat} {L : List (List UInt8)} (h : W.ownsRow base 9 1 (.slice A n c) n (L.map sv)) (hl : L.length = n) : SR W A L := by
  obtain ⟨A', c', e, hh⟩ := own_form h
  injection e with e1 e2 e3
  subst e1
  subst e3
  rcases hh with ⟨rfl, rfl, rfl⟩ | ⟨g, rfl, _⟩
  · obtain rfl : L = [] := List.eq_nil_of_length_eq_zero hl
    exact SR.nil _ _
  · exact own_SR h hl
theorem own_later {W W' : World} {base : Nat} {e : TypeId} {size : Nat} {v : Value} {n : Nat} {xs : List Value} (h : W.ownsRow base e size v n xs) (hb : Below W.heap.size W W') : W'.ownsRow base e size v n xs := by
  obtain ⟨h1, h2⟩ := h
  refine ⟨h1, ?_⟩
  rcases h2 with h2 | ⟨g, cap, cur, hv, hg, hh, r⟩
  · exact Or.inl h2
  · exact Or.inr ⟨g, cap, cur, hv, hg, (hb.block g (Array.getElem?_eq_some_iff.1 hh).1).trans hh, r⟩
theorem infoS : (Try.prog.info? 9).map (fun i => (i.zero, i.size, i.bytes)) = some (some (.string ⟨#[]⟩), 1, 16) := by kernel_rfl
end Go.Proofs.Ythimnpiiehggnaa
