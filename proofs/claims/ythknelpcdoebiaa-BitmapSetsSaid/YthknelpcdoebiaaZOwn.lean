/- A row of words that the call made, as it stands in its block; a map in its block; what is handed back. Nothing of any function. -/
import Derived.Test.YthknelpcdoebiaaZRow
namespace Go.Proofs.Ythknelpcdoebiaa
open Go.RowKit

/-- A row of words that the call made, as it stands in its block. -/
def ZRowS (W : World) (g n c : Nat) (T : List Nat) : Prop := ∃ cur : Array Value, Blk W g 23 cur ∧ cur.size = c * 1 ∧ n ≤ c ∧ c ≤ maxLen ∧ cur.toList.take (n * 1) = T.map zq ∧ T.length = n
theorem ZRowS.of_own {W : World} {base n c : Nat} {A : Option Addr} {T : List Nat} (h : W.ownsRow base 23 1 (.slice A n c) n (T.map zq)) (hn : 1 ≤ n) (ht : T.length = n) : ∃ g, A = some ⟨g, 0, none⟩ ∧ base ≤ g ∧ ZRowS W g n c T := by
  rcases h.2 with ⟨_, h2⟩ | ⟨g, cap, cur, hv, hg, hh, h3, h4, h5, h6⟩
  · omega
  · injection hv with e1 e2 e3
    subst e1 e3
    exact ⟨g, rfl, hg, cur, hh, h5, h3, h4, h6, ht⟩
theorem ZRowS.own {W : World} {base g n c : Nat} {T : List Nat} (h : ZRowS W g n c T) (hg : base ≤ g) : W.ownsRow base 23 1 (.slice (some ⟨g, 0, none⟩) n c) n (T.map zq) := by
  obtain ⟨cur, h1, h2, h3, h4, h5, h6⟩ := h
  exact ⟨by simp [h6], .inr ⟨g, c, cur, rfl, hg, h1, h3, h4, h2, h5⟩⟩
theorem ZRowS.below {W W' : World} {g n c : Nat} {T : List Nat} (h : ZRowS W g n c T) (hb : Below W.heap.size W W') : ZRowS W' g n c T := by
  obtain ⟨cur, h1, h2⟩ := h
  exact ⟨cur, h1.below hb, h2⟩
theorem ZRowS.lt {W : World} {g n c : Nat} {T : List Nat} (h : ZRowS W g n c T) : g < W.heap.size := by
  obtain ⟨cur, h1, _⟩ := h
  exact h1.lt
theorem ZRowS.cell {W : World} {g n c : Nat} {T : List Nat} (h : ZRowS W g n c T) (k : Nat) (hk : k < n) : W.cell? ⟨g, k, none⟩ = some (zq (T.getD k 0)) ∧ W.frozen? ⟨g, k, none⟩ = false := by
  obtain ⟨cur, h1, h2, h3, h4, h5, h6⟩ := h
  refine ⟨?_, h1.frozen k⟩
  rw [h1.cell k, ← zqs_at T k (by omega), ← h5, List.getElem?_take, if_pos (by omega)]
  simp
theorem ZRowS.set_ {W : World} {g n c : Nat} {T : List Nat} (h : ZRowS W g n c T) (k : Nat) (x : Nat) : ZRowS (W.setCell ⟨g, k, none⟩ (zq x)) g n c (T.set k x) := by
  obtain ⟨cur, h1, h2, h3, h4, h5, h6⟩ := h
  refine ⟨cur.setIfInBounds k (zq x), h1.set_ k _, by simpa using h2, h3, h4, ?_, by simpa using h6⟩
  rw [Array.toList_setIfInBounds, List.take_set, h5, List.map_set]
theorem ZRowS.far {W : World} {g n c : Nat} {T : List Nat} (h : ZRowS W g n c T) {p : Addr} (hp : g ≠ p.block) (u : Value) : ZRowS (W.setCell p u) g n c T := by
  obtain ⟨cur, h1, h2⟩ := h
  exact ⟨cur, h1.far hp u, h2⟩
theorem ZRowS.row {W : World} {g n c : Nat} {T : List Nat} (h : ZRowS W g n c T) : ZRow W (some ⟨g, 0, none⟩) T := fun j hj => by
  obtain ⟨cur, h1, h2, h3, h4, h5, h6⟩ := h
  have := (ZRowS.cell ⟨cur, h1, h2, h3, h4, h5, h6⟩ j (by omega)).1
  exact ⟨g, 0, rfl, by rw [Nat.zero_add]; exact this⟩
theorem ZRowS.zm {W : World} {g n c : Nat} {T : List Nat} {F : Nat} (h : ZRowS W g n c T) (hn : n ≤ 70) (ht : ∀ x ∈ T, x < Z64) (hf : F < Z64) : ZM W (some ⟨g, 0, none⟩) n c T F := by
  obtain ⟨cur, h1, h2, h3, h4, h5, h6⟩ := h
  exact ⟨ZRowS.row ⟨cur, h1, h2, h3, h4, h5, h6⟩, h6, (fun e => by cases e), hn, h3, ht, hf⟩

theorem zcells {W : World} {g : Nat} {t : TypeId} {x y z : Value} (h : Blk W g t #[x, y, z]) :
    (W.cell? ⟨g, 0, none⟩ = some x ∧ W.cell? ⟨g, 1, none⟩ = some y ∧ W.cell? ⟨g, 2, none⟩ = some z) ∧ W.frozen? ⟨g, 0, none⟩ = false ∧ W.frozen? ⟨g, 1, none⟩ = false ∧ W.frozen? ⟨g, 2, none⟩ = false :=
  ⟨⟨h.cell 0, h.cell 1, h.cell 2⟩, h.frozen 0, h.frozen 1, h.frozen 2⟩
/-- What a map and an error are handed back as. -/
theorem map_result {fn : Func} {p u : Tmp} {tmps : Array Value} {W : World} {g : Nat} {x y z v : Value} (h : fn.results = #[.cell p 25, .tmp u]) (hb : Blk W g 25 #[x, y, z]) (hp : tmps.getD p undef = .pointer (some ⟨g, 0, none⟩) := by rfl) (hu : tmps.getD u undef = v := by rfl) :
    (results fn tmps).run Try.prog W = .ok (.tuple #[.agg #[x, y, z], v]) W := by
  obtain ⟨⟨q0, q1, q2⟩, _⟩ := zcells hb
  rw [results_cell_tmp h, hp, hu]
  go_simp
/-- .. and a map alone. -/
theorem map1_result {fn : Func} {p : Tmp} {tmps : Array Value} {W : World} {g : Nat} {x y z : Value} (h : fn.results = #[.cell p 25]) (hb : Blk W g 25 #[x, y, z]) (hp : tmps.getD p undef = .pointer (some ⟨g, 0, none⟩) := by rfl) :
    (results fn tmps).run Try.prog W = .ok (.agg #[x, y, z]) W := by
  obtain ⟨⟨q0, q1, q2⟩, _⟩ := zcells hb
  simp only [Array.getD_eq_getD_getElem?] at hp
  simp [results, h, go_sem, hp, q0, q1, q2]
end Go.Proofs.Ythknelpcdoebiaa
