/- Rows of puts in memory, and a device's. Nothing of any function. -/
import Derived.Test.YtiibgbdhbamajaaStr
import Derived.Test.YtiibgbdhbamajaaDevM
import Derived.Laws.OwnMore
namespace Go.Proofs.Ytiibgbdhbamajaa
open Go.RowKit

/-- The cells of a row of puts. -/
def pcells (L : List PutL) : List Value := L.flatMap fun p => [.int .i64 p.1, sv p.2]
theorem pcells_len (L : List PutL) : (pcells L).length = L.length * 2 := by
  induction L with
  | nil => rfl
  | cons p L ih => simp only [pcells, List.flatMap_cons, List.length_append, List.length_cons, List.length_nil] at ih ⊢; omega
theorem pcells_more (L M : List PutL) : pcells (L ++ M) = pcells L ++ pcells M := by simp [pcells]
theorem pcells_two (L : List PutL) : ∀ k, k < L.length → (pcells L)[k * 2]? = some (.int .i64 (L.getD k (0, [])).1) ∧ (pcells L)[k * 2 + 1]? = some (sv (L.getD k (0, [])).2) := by
  induction L with
  | nil => intro k h; cases h
  | cons p L ih =>
    intro k h
    cases k with
    | zero => exact ⟨rfl, rfl⟩
    | succ k =>
      have := ih k (by simpa using h)
      rw [Nat.succ_mul]
      exact this
theorem pcells_one (L : List PutL) : ∀ u ∈ pcells L, u.oneCell' = true := by
  intro u hu
  simp only [pcells, List.mem_flatMap] at hu
  obtain ⟨x, _, hx⟩ := hu
  simp at hx
  rcases hx with rfl | rfl <;> rfl
theorem svs_one (L : List (List UInt8)) : ∀ u ∈ L.map sv, u.oneCell' = true := by
  intro u hu
  obtain ⟨x, _, rfl⟩ := List.mem_map.1 hu
  rfl

/-- A row of puts that can be read: where it lies, if it has any. -/
def PR (w : World) (A : Option Addr) (L : List PutL) : Prop :=
  ∀ j, j < L.length → ∃ g off, A = some ⟨g, off, none⟩ ∧ w.cell? ⟨g, off + j * 2, none⟩ = some (.int .i64 (L.getD j (0, [])).1) ∧ w.cell? ⟨g, off + j * 2 + 1, none⟩ = some (sv (L.getD j (0, [])).2)
theorem PR.later {w w' : World} {A : Option Addr} {L : List PutL} (h : PR w A L) (hb : Below w.heap.size w w') : PR w' A L := fun j hj => by
  obtain ⟨g, off, e, h0, h1⟩ := h j hj
  exact ⟨g, off, e, cell_later hb h0, cell_later hb h1⟩
theorem PR.nil (w : World) (A : Option Addr) : PR w A [] := fun j hj => absurd hj (by simp)
theorem PR.take {w : World} {A : Option Addr} {L : List PutL} (h : PR w A L) (m : Nat) : PR w A (L.take m) := fun j hj => by
  rw [List.length_take] at hj
  obtain ⟨g, off, e, h0, h1⟩ := h j (by omega)
  exact ⟨g, off, e, by rw [getD_take _ _ _ _ (by omega)]; exact h0, by rw [getD_take _ _ _ _ (by omega)]; exact h1⟩
/-- .. and as cells. -/
theorem PR.cells {w : World} {a : Addr} {L : List PutL} (h : PR w (some a) L) : ∀ j u, (pcells L)[j]? = some u → w.cell? (a.add j) = some u := by
  intro j u hu
  have hj : j < (pcells L).length := (List.getElem?_eq_some_iff.1 hu).1
  rw [pcells_len] at hj
  obtain ⟨g, off, e, h0, h1⟩ := h (j / 2) (by omega)
  obtain rfl : a = ⟨g, off, none⟩ := Option.some.inj e
  obtain ⟨p0, p1⟩ := pcells_two L (j / 2) (by omega)
  rw [Go.WideShapes.add_plain]
  rcases (show j = j / 2 * 2 ∨ j = j / 2 * 2 + 1 by omega) with hj2 | hj2
  · rw [← hj2] at p0 h0
    rw [h0, ← p0, hu]
  · rw [← hj2] at p1
    rw [Nat.add_assoc, ← hj2] at h1
    rw [h1, ← p1, hu]
theorem SR.cells {w : World} {a : Addr} {L : List (List UInt8)} (h : SR w (some a) L) : ∀ j u, (L.map sv)[j]? = some u → w.cell? (a.add j) = some u := by
  intro j u hu
  have hj : j < L.length := by simpa using (List.getElem?_eq_some_iff.1 hu).1
  obtain ⟨g, off, e, h0⟩ := h j hj
  obtain rfl : a = ⟨g, off, none⟩ := Option.some.inj e
  rw [Go.WideShapes.add_plain, h0, ← svs_at L j hj, hu]
theorem own_PR {W : World} {base : Nat} {A : Option Addr} {n c : Nat} {L : List PutL} (h : W.ownsRow base 47 2 (.slice A n c) n (pcells L)) (hl : L.length = n) : PR W A L := by
  obtain ⟨A', c', e, hh⟩ := own_form h
  injection e with e1 e2 e3
  subst e1
  subst e3
  rcases hh with ⟨rfl, rfl, rfl⟩ | ⟨g, rfl, _⟩
  · obtain rfl : L = [] := List.eq_nil_of_length_eq_zero hl
    exact PR.nil _ _
  · intro j hj
    obtain ⟨p0, p1⟩ := pcells_two L j hj
    exact ⟨g, 0, rfl, by rw [Nat.zero_add, h.cellAt (j * 2) (by omega), p0], by rw [Nat.zero_add, h.cellAt (j * 2 + 1) (by omega), p1]⟩
theorem infoP : (Try.prog.info? 47).map (fun i => (i.zero, i.size, i.bytes)) = some (some (.agg #[.int .i64 0, .string ⟨#[]⟩]), 2, 24) := by kernel_rfl

/-- A device's value. -/
abbrev dv (A : Option Addr) (n c : Nat) (B : Option Addr) (m d : Nat) : Value := .agg #[.slice A n c, .slice B m d]
/-- A device that can be read. -/
def DR (w : World) (v : Value) (S : List (List UInt8)) (C : List PutL) : Prop :=
  ∃ A c B d, v = dv A S.length c B C.length d ∧ SR w A S ∧ PR w B C ∧ (A = none → c = 0) ∧ (B = none → d = 0)
theorem DR.later {w w' : World} {v : Value} {S : List (List UInt8)} {C : List PutL} (h : DR w v S C) (hb : Below w.heap.size w w') : DR w' v S C := by
  obtain ⟨A, c, B, d, e, h1, h2, h3⟩ := h
  exact ⟨A, c, B, d, e, h1.later hb, h2.later hb, h3⟩
theorem DR.none (w : World) : DR w (dv none 0 0 none 0 0) [] [] := ⟨_, _, _, _, rfl, SR.nil _ _, PR.nil _ _, fun _ => rfl, fun _ => rfl⟩
end Go.Proofs.Ytiibgbdhbamajaa
