/- Words for slices of strings: what can be read of one, and one that the call made. Nothing of any function. -/
import Derived.Test.YtnehodipblabbaaMem
import Derived.Laws.MakeOwn
import Derived.RangeFuncBox
import Derived.Laws.OwnMore
import Derived.Deep.AppendLies
namespace Go.Proofs.Ytnehodipblabbaa
open Go.RowKit

/-- A string's cell. -/
abbrev sv (x : List UInt8) : Value := .string ⟨x.toArray⟩
/-- A row of strings that can be read: where it lies, if it has any. -/
def SR (w : World) (A : Option Addr) (L : List (List UInt8)) : Prop :=
  ∀ j, j < L.length → ∃ g off, A = some ⟨g, off, none⟩ ∧ w.cell? ⟨g, off + j, none⟩ = some (sv (L.getD j []))
theorem SR.later {w w' : World} {A : Option Addr} {L : List (List UInt8)} (h : SR w A L) (hb : Below w.heap.size w w') : SR w' A L := fun j hj => by
  obtain ⟨g, off, e, h0⟩ := h j hj
  exact ⟨g, off, e, cell_later hb h0⟩
theorem SR.drew {w : World} {A : Option Addr} {L : List (List UInt8)} (h : SR w A L) : SR w.drew A L := h
theorem SR.drewN {w : World} {A : Option Addr} {L : List (List UInt8)} (h : SR w A L) (n : Nat) : SR (w.drewN n) A L := h
theorem SR.nil (w : World) (A : Option Addr) : SR w A [] := fun j hj => absurd hj (by simp)
theorem getD_take {α : Type} (L : List α) (m j : Nat) (d : α) (h : j < m) : (L.take m).getD j d = L.getD j d := by
  simp only [List.getD, List.getElem?_take, h, if_true]
theorem SR.take {w : World} {A : Option Addr} {L : List (List UInt8)} (h : SR w A L) (m : Nat) : SR w A (L.take m) := fun j hj => by
  rw [List.length_take] at hj
  obtain ⟨g, off, e, h0⟩ := h j (by omega)
  exact ⟨g, off, e, by rw [getD_take _ _ _ _ (by omega)]; exact h0⟩
theorem getD_drop {α : Type} (L : List α) (m j : Nat) (d : α) : (L.drop m).getD j d = L.getD (m + j) d := by simp [List.getD]
/-- The row from a place on. -/
theorem SR.drop {w : World} {g off : Nat} {L : List (List UInt8)} (h : SR w (some ⟨g, off, none⟩) L) (m : Nat) : SR w (some ⟨g, off + m, none⟩) (L.drop m) := fun j hj => by
  rw [List.length_drop] at hj
  obtain ⟨g', off', e, h0⟩ := h (m + j) (by omega)
  obtain ⟨rfl, rfl⟩ : g = g' ∧ off = off' := by injection e with e; injection e with e1 e2; exact ⟨e1, e2⟩
  exact ⟨g, off + m, rfl, by rw [getD_drop, Nat.add_assoc]; exact h0⟩
theorem svs_at (L : List (List UInt8)) (j : Nat) (h : j < L.length) : (L.map sv)[j]? = some (sv (L.getD j [])) := by
  simp [List.getD, h]
theorem own_SR {W : World} {base g c n : Nat} {L : List (List UInt8)} (h : W.ownsRow base 9 1 (.slice (some ⟨g, 0, none⟩) n c) n (L.map sv)) (hl : L.length = n) : SR W (some ⟨g, 0, none⟩) L := fun j hj =>
  ⟨g, 0, rfl, by rw [Nat.zero_add, h.cellAt j (by omega), svs_at L j hj]⟩
theorem own_form {W : World} {base : Nat} {e : TypeId} {size : Nat} {v : Value} {n : Nat} {xs : List Value} (h : W.ownsRow base e size v n xs) : ∃ A c, v = .slice A n c ∧ ((A = none ∧ n = 0 ∧ c = 0) ∨ ∃ g, A = some ⟨g, 0, none⟩ ∧ n ≤ c ∧ c ≤ maxLen ∧ base ≤ g) := by
  rcases h.2 with ⟨rfl, rfl⟩ | ⟨g, cap, cur, rfl, hb, _, hn, hc, _⟩
  · exact ⟨none, 0, rfl, .inl ⟨rfl, rfl, rfl⟩⟩
  · exact ⟨_, cap, rfl, .inr ⟨g, rfl, hn, hc, hb⟩⟩
theorem own_SR' {W : World} {base : Nat} {A : Option Addr} {n c : Nat} {L : List (List UInt8)} (h : W.ownsRow base 9 1 (.slice A n c) n (L.map sv)) (hl : L.length = n) : SR W A L := by
  obtain ⟨A', c', e, hh⟩ := own_form h
  injection e with e1 e2 e3
  subst e1
  subst e3
  rcases hh with ⟨rfl, rfl, rfl⟩ | ⟨g, rfl, _⟩
  · obtain rfl : L = [] := List.eq_nil_of_length_eq_zero hl
    exact SR.nil _ _
  · exact own_SR h hl
theorem own_later {W W' : World} {base : Nat} {e : TypeId} {size : Nat} {v : Value} {n : Nat} {xs : List Value} (h : W.ownsRow base e size v n xs) (hb : Below W.heap.size W W') : W'.ownsRow base e size v n xs := by
  obtain ⟨h1, h2⟩ := h
  refine ⟨h1, ?_⟩
  rcases h2 with h2 | ⟨g, cap, cur, hv, hg, hh, r⟩
  · exact Or.inl h2
  · exact Or.inr ⟨g, cap, cur, hv, hg, (hb.block g (Array.getElem?_eq_some_iff.1 hh).1).trans hh, r⟩
theorem infoS : (Try.prog.info? 9).map (fun i => (i.zero, i.size, i.bytes)) = some (some (.string ⟨#[]⟩), 1, 16) := by kernel_rfl
theorem make_strs (n : Nat) (hn : n ≤ 65536) : ∃ Z : Array Value, Z.size = n ∧ ∀ W : World, (Instr.makeSlice 22 (.int .i64 0) (.int .i64 (n : Int))).run Try.prog W = .ok (.slice (some ⟨W.heap.size, 0, none⟩) 0 n) (W.alloc (.cells Z 9)) := by
  obtain ⟨i0, hi, hz0, hz1, hz2⟩ := info_parts infoS
  refine ⟨madeCells (Value.string ⟨#[]⟩).cells (n * 1), by simp [madeCells, Value.cells], fun W => ?_⟩
  have h := run_makeSlice (P := Try.prog) W 22 9 i0 (.string ⟨#[]⟩) Try.underlying22 hi hz0 .i64 .i64 0 n (by omega) (by omega) (by rw [hz1]; omega) (by rw [hz2]; omega) (by omega)
  rw [hz1] at h
  exact h
end Go.Proofs.Ytnehodipblabbaa
