/- A ring's value, and a row of texts that the call made, as it stands in its block; what is handed back. Nothing of any function. -/
import Derived.Test.YtnehodipblabbaaStr
import Derived.Test.YtnehodipblabbaaQMath
import Derived.Laws.ResultCell
import Derived.Lib.Hide
namespace Go.Proofs.Ytnehodipblabbaa
open Go.RowKit

/-- A ring's value, and a ring's cells. -/
abbrev qv (A : Option Addr) (n c : Nat) (f m : Int) : Value := .agg #[.slice A n c, .int .i64 f, .int .i64 m]
abbrev qcs (A : Option Addr) (n c : Nat) (f m : Int) : Array Value := #[.slice A n c, .int .i64 f, .int .i64 m]

/-- Slots that can be read. -/
structure QM (w : World) (A : Option Addr) (n c : Nat) (L : List (List UInt8)) : Prop where
  row : SR w A L
  len : L.length = n
  nil : A = none → c = 0
  few : n ≤ 70
  cap : n ≤ c
theorem QM.later {w w' : World} {A : Option Addr} {n c : Nat} {L : List (List UInt8)} (h : QM w A n c L) (hb : Below w.heap.size w w') : QM w' A n c L :=
  ⟨h.row.later hb, h.len, h.nil, h.few, h.cap⟩
theorem QM.none (w : World) : QM w none 0 0 [] := ⟨SR.nil _ _, rfl, fun _ => rfl, by omega, by omega⟩
theorem qdrew {B : Nat} {w w1 : World} (h : Below B w w1) (n : Nat) : Below B w (w1.drewN n) := ⟨h.os, h.tape, h.output, h.size, h.block⟩
theorem qkeeps {W W' : World} (h : Below W.heap.size W W') : KeepsOthers W W' := ⟨h.size, fun k _ hk _ => (h.block k (Array.getElem?_eq_some_iff.1 hk).1).trans hk⟩
theorem svs_one' (L : List (List UInt8)) : ∀ u ∈ L.map sv, u.oneCell' = true := by
  intro u hu
  obtain ⟨x, _, rfl⟩ := List.mem_map.1 hu
  rfl
theorem SR.cells' {w : World} {a : Addr} {L : List (List UInt8)} (h : SR w (some a) L) : ∀ j u, (L.map sv)[j]? = some u → w.cell? (a.add j) = some u := by
  intro j u hu
  have hj : j < L.length := by simpa using (List.getElem?_eq_some_iff.1 hu).1
  obtain ⟨g, off, e, h0⟩ := h j hj
  obtain rfl : a = ⟨g, off, Option.none⟩ := Option.some.inj e
  rw [Go.WideShapes.add_plain, h0, ← svs_at L j hj, hu]
theorem blk_SR {W : World} {g : Nat} {t : TypeId} {L : List (List UInt8)} (h : Blk W g t (L.map sv).toArray) : SR W (some ⟨g, 0, Option.none⟩) L := fun j hj =>
  ⟨g, 0, rfl, by rw [Nat.zero_add, h.cell j, List.getElem?_toArray, svs_at L j hj]⟩

/-- A row of texts that the call made, as it stands in its block. -/
def QS (W : World) (g n c : Nat) (T : List (List UInt8)) : Prop := ∃ cur : Array Value, Blk W g 9 cur ∧ cur.size = c * 1 ∧ n ≤ c ∧ c ≤ maxLen ∧ cur.toList.take (n * 1) = T.map sv ∧ T.length = n
theorem QS.of_own {W : World} {base n c : Nat} {A : Option Addr} {T : List (List UInt8)} (h : W.ownsRow base 9 1 (.slice A n c) n (T.map sv)) (hn : 1 ≤ n) (ht : T.length = n) : ∃ g, A = some ⟨g, 0, none⟩ ∧ base ≤ g ∧ QS W g n c T := by
  rcases h.2 with ⟨_, h2⟩ | ⟨g, cap, cur, hv, hg, hh, h3, h4, h5, h6⟩
  · omega
  · injection hv with e1 e2 e3
    subst e1 e3
    exact ⟨g, rfl, hg, cur, hh, h5, h3, h4, h6, ht⟩
theorem QS.own {W : World} {base g n c : Nat} {T : List (List UInt8)} (h : QS W g n c T) (hg : base ≤ g) : W.ownsRow base 9 1 (.slice (some ⟨g, 0, none⟩) n c) n (T.map sv) := by
  obtain ⟨cur, h1, h2, h3, h4, h5, h6⟩ := h
  exact ⟨by simp [h6], .inr ⟨g, c, cur, rfl, hg, h1, h3, h4, h2, h5⟩⟩
theorem QS.below {W W' : World} {g n c : Nat} {T : List (List UInt8)} (h : QS W g n c T) (hb : Below W.heap.size W W') : QS W' g n c T := by
  obtain ⟨cur, h1, h2⟩ := h
  exact ⟨cur, h1.below hb, h2⟩
theorem QS.lt {W : World} {g n c : Nat} {T : List (List UInt8)} (h : QS W g n c T) : g < W.heap.size := by
  obtain ⟨cur, h1, _⟩ := h
  exact h1.lt
theorem QS.cell {W : World} {g n c : Nat} {T : List (List UInt8)} (h : QS W g n c T) (k : Nat) (hk : k < n) : W.cell? ⟨g, k, none⟩ = some (sv (T.getD k [])) ∧ W.frozen? ⟨g, k, none⟩ = false := by
  obtain ⟨cur, h1, h2, h3, h4, h5, h6⟩ := h
  refine ⟨?_, h1.frozen k⟩
  rw [h1.cell k, ← svs_at T k (by omega), ← h5, List.getElem?_take, if_pos (by omega)]
  simp
theorem QS.set_ {W : World} {g n c : Nat} {T : List (List UInt8)} (h : QS W g n c T) (k : Nat) (x : List UInt8) : QS (W.setCell ⟨g, k, none⟩ (sv x)) g n c (T.set k x) := by
  obtain ⟨cur, h1, h2, h3, h4, h5, h6⟩ := h
  refine ⟨cur.setIfInBounds k (sv x), h1.set_ k _, by simpa using h2, h3, h4, ?_, by simpa using h6⟩
  rw [Array.toList_setIfInBounds, List.take_set, h5, List.map_set]
theorem QS.far {W : World} {g n c : Nat} {T : List (List UInt8)} (h : QS W g n c T) {p : Addr} (hp : g ≠ p.block) (u : Value) : QS (W.setCell p u) g n c T := by
  obtain ⟨cur, h1, h2⟩ := h
  exact ⟨cur, h1.far hp u, h2⟩
theorem QS.row {W : World} {g n c : Nat} {T : List (List UInt8)} (h : QS W g n c T) : SR W (some ⟨g, 0, none⟩) T := fun j hj => by
  obtain ⟨cur, h1, h2, h3, h4, h5, h6⟩ := h
  have := (QS.cell ⟨cur, h1, h2, h3, h4, h5, h6⟩ j (by omega)).1
  exact ⟨g, 0, rfl, by rw [Nat.zero_add]; exact this⟩
theorem QS.qm {W : World} {g n c : Nat} {T : List (List UInt8)} (h : QS W g n c T) (hn : n ≤ 70) : QM W (some ⟨g, 0, none⟩) n c T := by
  obtain ⟨cur, h1, h2, h3, h4, h5, h6⟩ := h
  exact ⟨QS.row ⟨cur, h1, h2, h3, h4, h5, h6⟩, h6, (fun e => by cases e), hn, h3⟩
theorem QS.putObj {W : World} {g n c D : Nat} {T : List (List UInt8)} {o o' : Obj} (h : QS W g n c T) (hD : W.heap[D]? = some o) (ho : o.isCells = false) : QS (W.putObj D o') g n c T := by
  obtain ⟨cur, h1, h2⟩ := h
  refine ⟨cur, (World.putObj_heap_other (fun e => ?_)).trans h1, h2⟩
  subst e
  rw [show W.heap[g]? = _ from h1] at hD
  cases hD; cases ho
theorem own_QM {W : World} {base : Nat} {A : Option Addr} {n c : Nat} {L : List (List UInt8)} (h : W.ownsRow base 9 1 (.slice A n c) n (L.map sv)) (hl : L.length = n) (hn : n ≤ 70) : QM W A n c L := by
  have h1 := own_SR' h hl
  obtain ⟨A', c', e, hh⟩ := own_form h
  injection e with e1 e2 e3
  subst e1
  subst e3
  rcases hh with ⟨rfl, rfl, rfl⟩ | ⟨g, rfl, h3, _⟩
  · exact ⟨h1, hl, fun _ => rfl, hn, Nat.le_refl _⟩
  · exact ⟨h1, hl, (fun e => by cases e), hn, h3⟩
theorem own_base' {W : World} {base base' : Nat} {e : TypeId} {size : Nat} {v : Value} {n : Nat} {xs : List Value} (h : W.ownsRow base e size v n xs) (hb : base' ≤ base) : W.ownsRow base' e size v n xs := by
  obtain ⟨h1, h2⟩ := h
  refine ⟨h1, ?_⟩
  rcases h2 with h2 | ⟨g, cap, cur, hv, hg, r⟩
  · exact Or.inl h2
  · exact Or.inr ⟨g, cap, cur, hv, Nat.le_trans hb hg, r⟩

theorem qcells {W : World} {g : Nat} {t : TypeId} {x y z : Value} (h : Blk W g t #[x, y, z]) :
    (W.cell? ⟨g, 0, none⟩ = some x ∧ W.cell? ⟨g, 1, none⟩ = some y ∧ W.cell? ⟨g, 2, none⟩ = some z) ∧ W.frozen? ⟨g, 0, none⟩ = false ∧ W.frozen? ⟨g, 1, none⟩ = false ∧ W.frozen? ⟨g, 2, none⟩ = false :=
  ⟨⟨h.cell 0, h.cell 1, h.cell 2⟩, h.frozen 0, h.frozen 1, h.frozen 2⟩
theorem qcell {W : World} {g : Nat} {t : TypeId} {x : Value} (h : Blk W g t #[x]) : W.cell? ⟨g, 0, none⟩ = some x ∧ W.frozen? ⟨g, 0, none⟩ = false := ⟨h.cell 0, h.frozen 0⟩
/-- What a ring and an error are handed back as. -/
theorem ring_result {fn : Func} {p u : Tmp} {tmps : Array Value} {W : World} {g : Nat} {x y z v : Value} (h : fn.results = #[.cell p 24, .tmp u]) (hb : Blk W g 24 #[x, y, z]) (hp : tmps.getD p undef = .pointer (some ⟨g, 0, none⟩) := by rfl) (hu : tmps.getD u undef = v := by rfl) :
    (results fn tmps).run Try.prog W = .ok (.tuple #[.agg #[x, y, z], v]) W := by
  obtain ⟨⟨q0, q1, q2⟩, _⟩ := qcells hb
  rw [results_cell_tmp h, hp, hu]
  go_simp
/-- .. and a ring alone. -/
theorem ring1_result {fn : Func} {p : Tmp} {tmps : Array Value} {W : World} {g : Nat} {x y z : Value} (h : fn.results = #[.cell p 24]) (hb : Blk W g 24 #[x, y, z]) (hp : tmps.getD p undef = .pointer (some ⟨g, 0, none⟩) := by rfl) :
    (results fn tmps).run Try.prog W = .ok (.agg #[x, y, z]) W := by
  obtain ⟨⟨q0, q1, q2⟩, _⟩ := qcells hb
  simp only [Array.getD_eq_getD_getElem?] at hp
  simp [results, h, go_sem, hp, q0, q1, q2]
/-- .. and a bool. -/
theorem bool1_result {fn : Func} {p : Tmp} {tmps : Array Value} {W : World} {g : Nat} {b : Bool} (h : fn.results = #[.cell p 4]) (hb : Blk W g 4 #[.bool b]) (hp : tmps.getD p undef = .pointer (some ⟨g, 0, none⟩) := by rfl) :
    (results fn tmps).run Try.prog W = .ok (.bool b) W := by
  obtain ⟨q0, _⟩ := qcell hb
  simp only [Array.getD_eq_getD_getElem?] at hp
  simp [results, h, go_sem, hp, q0]

abbrev qbox (w : World) (A : Option Addr) (n c : Nat) (f m : Int) : World := w.alloc (.cells (qcs A n c f m) 24)
theorem qbox_below (w : World) (A : Option Addr) (n c : Nat) (f m : Int) : Below w.heap.size w (qbox w A n c f m) := ba (Below.refl _ _) _
theorem qbox_blk (w : World) (A : Option Addr) (n c : Nat) (f m : Int) : Blk (qbox w A n c f m) w.heap.size 24 (qcs A n c f m) := Blk.new w _ _
end Go.Proofs.Ytnehodipblabbaa
