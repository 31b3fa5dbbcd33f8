/- Less, for every input: what it hands back owns the cells of the list that lessL tells. -/
import Derived.Test.YtkaenoejfdcokaaSpans
namespace Go.Proofs.Ytkaenoejfdcokaa
open Go.RowKit Go.Shelf

theorem common_is (a b c d A B : Int) (w : World) (hA : A = max a c) (hB : B = min b d) :
    Calls Try.prog 29 #[.agg #[.int .u64 a, .int .u64 b], .agg #[.int .u64 c, .int .u64 d]] w fun e w' => e = .returned (.agg #[.int .u64 A, .int .u64 B]) ∧ Below w.heap.size w w' := by
  subst hA hB
  exact common_any a b c d w

theorem info55 : (Try.prog.info? 55).map (fun i => (i.zero, i.size, i.bytes)) = some (some (.agg #[.int .u64 0, .int .u64 0]), 2, 16) := by kernel_rfl
theorem enters42 : ∀ args w, (callFunc 42 args).run Try.prog w = .ok (.enter 42 args) w := enters_of Try.func42 (by kernel_rfl) rfl

/-- The cells of a list of pairs. -/
def rowCells (L : List (Int × Int)) : List Value := L.flatMap fun x => [.int .u64 x.1, .int .u64 x.2]
theorem rowCells_length (L : List (Int × Int)) : (rowCells L).length = L.length * 2 := by
  induction L with
  | nil => rfl
  | cons x L ih => simp only [rowCells, List.flatMap_cons, List.length_append, List.length_cons, List.length_nil] at ih ⊢; omega
theorem rowCells_at (L : List (Int × Int)) (j : Nat) (h : j < L.length) : (rowCells L)[j * 2]? = some (.int .u64 L[j].1) ∧ (rowCells L)[j * 2 + 1]? = some (.int .u64 L[j].2) := by
  induction L generalizing j with
  | nil => simp at h
  | cons x L ih =>
    cases j with
    | zero => simp [rowCells]
    | succ j =>
      have := ih j (by simpa using h)
      have e : rowCells (x :: L) = .int .u64 x.1 :: .int .u64 x.2 :: rowCells L := by simp [rowCells]
      rw [e, show (j + 1) * 2 = j * 2 + 1 + 1 by omega]
      simpa using this
def endPairs (zs : List E64) : List (Int × Int) := zs.map fun x => x.1
def spanPairs (zs : List E64) : List (Int × Int) := zs.map fun x => (x.1.1, x.1.2 - x.1.1 + 1)
theorem spanCells_eq (zs : List E64) : spanCells zs = rowCells (spanPairs zs) := by simp [spanCells, rowCells, spanPairs, List.flatMap_map]

/-- The cells of what a slice value owns. -/
theorem owned_cells {W : World} {base : Nat} {e : TypeId} {v : Value} {L : List (Int × Int)} (h : W.ownsRow base e 2 v L.length (rowCells L)) :
    (v = .slice none 0 0 ∧ L = []) ∨ ∃ g cap, v = .slice (some ⟨g, 0, none⟩) L.length cap ∧ g < W.heap.size ∧ base ≤ g ∧ L.length ≤ cap ∧ cap ≤ maxLen ∧ ∀ j (hj : j < L.length), W.cell? ⟨g, 0 + j * 2, none⟩ = some (.int .u64 L[j].1) ∧ W.cell? ⟨g, 0 + j * 2 + 1, none⟩ = some (.int .u64 L[j].2) := by
  obtain ⟨hl, h⟩ := h
  rcases h with ⟨rfl, h0⟩ | ⟨g, cap, cur, rfl, hg, hh, hle, hcap, hsz, htk⟩
  · exact .inl ⟨rfl, List.length_eq_zero_iff.1 h0⟩
  · refine .inr ⟨g, cap, rfl, (Array.getElem?_eq_some_iff.1 hh).1, hg, hle, hcap, fun j hj => ?_⟩
    obtain ⟨r0, r1⟩ := rowCells_at L j hj
    rw [← htk, List.getElem?_take] at r0 r1
    rw [if_pos (by omega)] at r0 r1
    simp only [Array.getElem?_toList] at r0 r1
    constructor
    · simp only [World.cell?, hh]; simpa using r0
    · simp only [World.cell?, hh]; simpa using r1

theorem endsOf_owned {W : World} {base : Nat} {e : TypeId} {v : Value} {zs : List E64} (h : W.ownsRow base e 2 v zs.length (rowCells (endPairs zs))) : EndsOf W.heap.size W v zs := by
  have hl : (endPairs zs).length = zs.length := by simp [endPairs]
  rw [← hl] at h
  rcases owned_cells h with ⟨rfl, h0⟩ | ⟨g, cap, rfl, hg, _, _, _, hc⟩
  · exact .inl ⟨rfl, by simpa [endPairs] using h0⟩
  · refine .inr ⟨g, 0, cap, by rw [hl], hg, fun j hj => ?_⟩
    have := hc j (by omega)
    simpa [endPairs] using this
theorem ownsRow_mono {W : World} {base base' : Nat} {e : TypeId} {size : Nat} {v : Value} {n : Nat} {xs : List Value} (h : W.ownsRow base e size v n xs) (hb : base' ≤ base) : W.ownsRow base' e size v n xs := by
  obtain ⟨h1, h2⟩ := h
  refine ⟨h1, h2.imp id ?_⟩
  rintro ⟨g, cap, cur, hv, hg, r⟩
  exact ⟨g, cap, cur, hv, by omega, r⟩
theorem nw_lo {x : E64} (h : x.1.1 ≠ 0) : ¬ Whole x := fun k => h k.1
theorem nw_hi {x : E64} (h : x.1.2 ≠ 18446744073709551615) : ¬ Whole x := fun k => h k.2
theorem nw0 : ∀ z ∈ ([] : List E64), ¬ Whole z := fun _ h => by cases h
theorem nw1 {x : E64} (hx : ¬ Whole x) : ∀ z ∈ [x], ¬ Whole z := fun z h => by rw [List.mem_singleton.1 h]; exact hx
theorem nw2 {x y : E64} (hx : ¬ Whole x) (hy : ¬ Whole y) : ∀ z ∈ [x, y], ¬ Whole z := fun z h => by
  rcases List.mem_cons.1 h with rfl | h
  · exact hx
  · exact nw1 hy z h
theorem ownsRow_from {W : World} {base : Nat} {e : TypeId} {size : Nat} {v : Value} {n : Nat} {xs : List Value} (h : W.ownsRow base e size v n xs) : ∀ k, v.ownBlock = some k → base ≤ k := by
  intro k hk
  rcases h.2 with ⟨rfl, _⟩ | ⟨g, cap, cur, rfl, hg, _⟩
  · cases hk
  · cases hk; exact hg
theorem below_grown {w W W' : World} (h : Below w.heap.size w W) (hg : W.grownBy W' none) : Below w.heap.size w W' := h.grown hg h.size (fun k e => by cases e)

/-- What Less of two spans that may be tells; A and B: the first and the last number of what they have in common. -/
def lessL (f n A B : Int) : List (Int × Int) :=
  if B < A then [(f, n)] else (if f < A then [(f, A - f)] else []) ++ (if B < f + (n - 1) then [(B + 1, f + (n - 1) - B)] else [])

theorem one_le_maxLen : 1 ≤ maxLen := by unfold maxLen; omega
/-- What Less leaves. -/
def LessPost (w : World) (L : List (Int × Int)) (e : Ending) (w' : World) : Prop :=
  ∃ v, e = .returned (.tuple #[v, .int .i64 0]) ∧ w'.ownsRow w.heap.size 24 2 v L.length (rowCells L) ∧ Below w.heap.size w w'

theorem hands_values {W : World} {base : Nat} {e : TypeId} {v : Value} {zs : List E64} (h : W.ownsRow base e 2 v zs.length (rowCells (endPairs zs))) (hreach : zs.length * 16 ≤ 140737488351232) :
    Hands Fence.wide 5 42 #[.pointer (some ⟨W.heap.size, 0, none⟩)] (W.alloc (.cells #[v] 60)).heap.size zs (W.alloc (.cells #[v] 60)) :=
  values_stops Fence.wide 5 trivial rfl (by omega) _ _ v zs hreach _ (by simp) (Nat.le_refl _) (Boxed.new _ _ _).cell (endsOf_owned (ownsRow_below h ((Below.refl _ _).alloc (Nat.le_refl _) _)))

/-- Its last two calls: slices.Values and spans over a row of ends, none of them all numbers. -/
theorem less_end {w W : World} {zs : List E64} {e : Ending} {w' : World} (hB : Below w.heap.size w W) (hn : ∀ x ∈ zs, ¬ Whole x) (h : SpansPost W zs e w') : LessPost w (spanPairs zs) e w' := by
  obtain ⟨hb, ⟨v, _, rfl, ho⟩ | ⟨⟨x, hx, hxw⟩, _⟩⟩ := h
  · refine ⟨v, rfl, ?_, bt hB hb⟩
    rw [← spanCells_eq]
    have hl : (spanPairs zs).length = zs.length := by simp [spanPairs]
    rw [hl]
    exact ownsRow_mono ho hB.size
  · exact absurd hxw (hn x hx)

end Go.Proofs.Ytkaenoejfdcokaa
