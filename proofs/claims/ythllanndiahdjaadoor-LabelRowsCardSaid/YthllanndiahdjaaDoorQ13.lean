/- Texts of this seat, one behind the other: IRow, IMath, IPlace, INumbers. -/
import Derived.Laws.OwnMore
import Derived.BigQuiet
import Derived.Test.YthllanndiahdjaaDoorQ01
import Derived.Test.YthllanndiahdjaaDoorQ12
/- Rows of items, and of hops, in memory. Nothing of any function. -/
namespace Go.Proofs.YthllanndiahdjaaDoor
open Go.RowKit

/-- An item, and a hop. -/
abbrev ItL := Nat × List UInt8
abbrev HopL := Nat × Nat
/-- The cells of a row of them. -/
def icells (L : List ItL) : List Value := L.flatMap fun p => [vu p.1, sv p.2]
def hcells (L : List HopL) : List Value := L.flatMap fun p => [vi p.1, vi p.2]
theorem icells_len (L : List ItL) : (icells L).length = L.length * 2 := by
  induction L with
  | nil => rfl
  | cons p L ih => simp only [icells, List.flatMap_cons, List.length_append, List.length_cons, List.length_nil] at ih ⊢; omega
theorem hcells_len (L : List HopL) : (hcells L).length = L.length * 2 := by
  induction L with
  | nil => rfl
  | cons p L ih => simp only [hcells, List.flatMap_cons, List.length_append, List.length_cons, List.length_nil] at ih ⊢; omega
theorem icells_more (L M : List ItL) : icells (L ++ M) = icells L ++ icells M := by simp [icells]
theorem hcells_more (L M : List HopL) : hcells (L ++ M) = hcells L ++ hcells M := by simp [hcells]
theorem icells_two (L : List ItL) : ∀ k, k < L.length → (icells L)[k * 2]? = some (vu (L.getD k (0, [])).1) ∧ (icells L)[k * 2 + 1]? = some (sv (L.getD k (0, [])).2) := by
  induction L with
  | nil => intro k h; cases h
  | cons p L ih =>
    intro k h
    cases k with
    | zero => exact ⟨rfl, rfl⟩
    | succ k =>
      have := ih k (by simpa using h)
      rw [Nat.succ_mul]
      exact this
theorem hcells_two (L : List HopL) : ∀ k, k < L.length → (hcells L)[k * 2]? = some (vi (L.getD k (0, 0)).1) ∧ (hcells L)[k * 2 + 1]? = some (vi (L.getD k (0, 0)).2) := by
  induction L with
  | nil => intro k h; cases h
  | cons p L ih =>
    intro k h
    cases k with
    | zero => exact ⟨rfl, rfl⟩
    | succ k =>
      have := ih k (by simpa using h)
      rw [Nat.succ_mul]
      exact this
theorem icells_one (L : List ItL) : ∀ u ∈ icells L, u.oneCell' = true := by
  intro u hu
  simp only [icells, List.mem_flatMap] at hu
  obtain ⟨x, _, hx⟩ := hu
  simp at hx
  rcases hx with rfl | rfl <;> rfl
theorem hcells_one (L : List HopL) : ∀ u ∈ hcells L, u.oneCell' = true := by
  intro u hu
  simp only [hcells, List.mem_flatMap] at hu
  obtain ⟨x, _, hx⟩ := hu
  simp at hx
  rcases hx with rfl | rfl <;> rfl

/-- A row of items that can be read: where it lies, if it has any. -/
def IR (w : World) (A : Option Addr) (L : List ItL) : Prop :=
  ∀ j, j < L.length → ∃ g off, A = some ⟨g, off, none⟩ ∧ w.cell? ⟨g, off + j * 2, none⟩ = some (vu (L.getD j (0, [])).1) ∧ w.cell? ⟨g, off + j * 2 + 1, none⟩ = some (sv (L.getD j (0, [])).2)
/-- .. and one of hops. -/
def OR (w : World) (A : Option Addr) (L : List HopL) : Prop :=
  ∀ j, j < L.length → ∃ g off, A = some ⟨g, off, none⟩ ∧ w.cell? ⟨g, off + j * 2, none⟩ = some (vi (L.getD j (0, 0)).1) ∧ w.cell? ⟨g, off + j * 2 + 1, none⟩ = some (vi (L.getD j (0, 0)).2)
section
variable {w w' : World} {A : Option Addr} {L : List ItL}
theorem IR.later (h : IR w A L) (hb : Below w.heap.size w w') : IR w' A L := fun j hj => by
  obtain ⟨g, off, e, h0, h1⟩ := h j hj
  exact ⟨g, off, e, cell_later hb h0, cell_later hb h1⟩
theorem IR.nil (w : World) (A : Option Addr) : IR w A [] := fun j hj => absurd hj (by simp)
theorem IR.none (h : IR w none L) : L = [] := by
  cases L with
  | nil => rfl
  | cons x r => obtain ⟨g, off, e, _⟩ := h 0 (by simp); cases e
theorem IR.take (h : IR w A L) (m : Nat) : IR w A (L.take m) := fun j hj => by
  rw [List.length_take] at hj
  obtain ⟨g, off, e, h0, h1⟩ := h j (by omega)
  exact ⟨g, off, e, by rw [getD_take _ _ _ _ (by omega)]; exact h0, by rw [getD_take _ _ _ _ (by omega)]; exact h1⟩
theorem IR.drop {g off : Nat} (h : IR w (some ⟨g, off, Option.none⟩) L) (m : Nat) : IR w (some ⟨g, off + m * 2, Option.none⟩) (L.drop m) := fun j hj => by
  rw [List.length_drop] at hj
  obtain ⟨g', off', e, h0, h1⟩ := h (m + j) (by omega)
  obtain ⟨rfl, rfl⟩ : g = g' ∧ off = off' := by injection e with e; injection e with e1 e2; exact ⟨e1, e2⟩
  rw [Nat.add_mul, ← Nat.add_assoc] at h0 h1
  exact ⟨g, off + m * 2, rfl, by rw [getD_drop]; exact h0, by rw [getD_drop]; exact h1⟩
/-- .. and as cells. -/
theorem IR.cells {a : Addr} (h : IR w (some a) L) : ∀ j u, (icells L)[j]? = some u → w.cell? (a.add j) = some u := by
  intro j u hu
  have hj : j < (icells L).length := (List.getElem?_eq_some_iff.1 hu).1
  rw [icells_len] at hj
  obtain ⟨g, off, e, h0, h1⟩ := h (j / 2) (by omega)
  obtain rfl : a = ⟨g, off, Option.none⟩ := Option.some.inj e
  obtain ⟨p0, p1⟩ := icells_two L (j / 2) (by omega)
  rw [Go.WideShapes.add_plain]
  rcases (show j = j / 2 * 2 ∨ j = j / 2 * 2 + 1 by omega) with hj2 | hj2
  · rw [← hj2] at p0 h0
    rw [h0, ← p0, hu]
  · rw [← hj2] at p1
    rw [Nat.add_assoc, ← hj2] at h1
    rw [h1, ← p1, hu]
end
theorem OR.later {w w' : World} {A : Option Addr} {L : List HopL} (h : OR w A L) (hb : Below w.heap.size w w') : OR w' A L := fun j hj => by
  obtain ⟨g, off, e, h0, h1⟩ := h j hj
  exact ⟨g, off, e, cell_later hb h0, cell_later hb h1⟩
theorem OR.nil (w : World) (A : Option Addr) : OR w A [] := fun j hj => absurd hj (by simp)
theorem own_IR {W : World} {base : Nat} {A : Option Addr} {n c : Nat} {L : List ItL} (h : W.ownsRow base 24 2 (.slice A n c) n (icells L)) (hl : L.length = n) : IR W A L := by
  obtain ⟨A', c', e, hh⟩ := own_form h
  injection e with e1 e2 e3
  subst e1
  subst e3
  rcases hh with ⟨rfl, rfl, rfl⟩ | ⟨g, rfl, _⟩
  · obtain rfl : L = [] := List.eq_nil_of_length_eq_zero hl
    exact IR.nil _ _
  · intro j hj
    obtain ⟨p0, p1⟩ := icells_two L j hj
    exact ⟨g, 0, rfl, by rw [Nat.zero_add, h.cellAt (j * 2) (by omega), p0], by rw [Nat.zero_add, h.cellAt (j * 2 + 1) (by omega), p1]⟩
theorem blk_IR {W : World} {g : Nat} {t : TypeId} {L : List ItL} (h : Blk W g t (icells L).toArray) : IR W (some ⟨g, 0, none⟩) L := fun j hj => by
  obtain ⟨p0, p1⟩ := icells_two L j hj
  exact ⟨g, 0, rfl, by rw [Nat.zero_add, h.cell, List.getElem?_toArray, p0], by rw [Nat.zero_add, h.cell, List.getElem?_toArray, p1]⟩
theorem infoI : (Tryd.prog.info? 24).map (fun i => (i.zero, i.size, i.bytes)) = some (some (.agg #[.int .u64 0, .string ⟨#[]⟩]), 2, 24) := by kernel_rfl
/-- A row cut to its beginning, to nothing without room, and from a place on. -/
theorem icut_run (A : Option Addr) (len cap m : Nat) (hm : m ≤ cap) (W : World) : (Instr.slice 37 (.slice A len cap) none (some (.int .i64 (m : Int))) none).run Tryd.prog W = .ok (.slice A m cap) W := by
  obtain ⟨i, hi⟩ : ∃ i, Tryd.prog.info? 24 = some i := Option.isSome_iff_exists.1 (by kernel_rfl)
  have hb : (Instr.sliceBounds true len cap none (some (.int .i64 (m : Int))) none).run Tryd.prog W = .ok (0, m, cap) W := by
    have h1 : (0 : Int) ≤ (m : Int) ∧ (m : Int) ≤ (cap : Int) := by omega
    simp [Instr.sliceBounds, Instr.sliceBound, asIntOf, h1]
    omega
  have hA : (if cap = 0 then A else A.map fun x => x.add (0 * i.size)) = A := by
    split
    · rfl
    · cases A <;> simp [Addr.add]
  simp [Instr.slice, run_underlying (P := Tryd.prog) (w := W) Tryd.underlying37, hb, sizeOf, typeInfo, hi]
  simpa using hA
theorem icut0_run (A : Option Addr) (len cap : Nat) (W : World) : (Instr.slice 37 (.slice A len cap) none (some (.int .i64 0)) (some (.int .i64 0))).run Tryd.prog W = .ok (.slice A 0 0) W := by
  obtain ⟨i, hi⟩ : ∃ i, Tryd.prog.info? 24 = some i := Option.isSome_iff_exists.1 (by kernel_rfl)
  have hb : (Instr.sliceBounds true len cap none (some (.int .i64 0)) (some (.int .i64 0))).run Tryd.prog W = .ok (0, 0, 0) W := by
    have h1 : (0 : Int) ≤ (cap : Int) := by omega
    simp [Instr.sliceBounds, Instr.sliceBound, asIntOf, h1]
  simp [Instr.slice, run_underlying (P := Tryd.prog) (w := W) Tryd.underlying37, hb, sizeOf, typeInfo, hi]
set_option maxRecDepth 100000 in
theorem ifrom_run (A : Option Addr) (L : List ItL) (n c k : Nat) (hl : L.length = n) (hk : k ≤ n) (hc : n ≤ c) :
    ∃ A' : Option Addr, (∀ W : World, (Instr.slice 37 (.slice A n c) (some (.int .i64 (k : Int))) none none).run Tryd.prog W = .ok (.slice A' (n - k) (c - k)) W) ∧ ∀ W, IR W A L → IR W A' (L.drop k) := by
  refine ⟨if c = k then A else A.map (·.add (k * 2)), fun W => ?_, fun W h => ?_⟩
  · rw [run_slice_l (P := Tryd.prog) W _ _ _ _ Tryd.underlying37 .i64 (k : Int) (by omega) (by omega)]
    go_simp
  · by_cases hkn : k = n
    · subst hkn
      rw [List.drop_of_length_le (by omega)]
      exact IR.nil _ _
    · obtain ⟨g, off, rfl, _⟩ := h k (by omega)
      rw [if_neg (by omega)]
      simp only [Option.map_some]
      have := h.drop k
      rw [show (⟨g, off, none⟩ : Addr).add (k * 2) = ⟨g, off + k * 2, none⟩ from Go.WideShapes.add_plain _ _ _]
      exact this

/-- A row that the call made, or one of nothing without room. -/
def IF (W : World) (base : Nat) (v : Value) (n : Nat) (X : List ItL) : Prop :=
  (∃ A, v = .slice A 0 0 ∧ n = 0 ∧ X = []) ∨ W.ownsRow base 24 2 v n (icells X)
theorem IF.form {W : World} {base : Nat} {v : Value} {n : Nat} {X : List ItL} (h : IF W base v n X) : ∃ A c, v = .slice A n c ∧ n ≤ c ∧ (X.length = n) := by
  rcases h with ⟨A, rfl, rfl, rfl⟩ | h
  · exact ⟨A, 0, rfl, Nat.le_refl _, rfl⟩
  · have hl : X.length = n := by have := h.1; rw [icells_len] at this; omega
    obtain ⟨A', c', e, hh⟩ := own_form h
    refine ⟨A', c', e, ?_, hl⟩
    rcases hh with ⟨_, h1, h2⟩ | ⟨_, _, h1, _⟩ <;> omega
theorem IF.read {W : World} {base : Nat} {A : Option Addr} {n c : Nat} {X : List ItL} (h : IF W base (.slice A n c) n X) : IR W A X := by
  rcases h with ⟨B, e, rfl, rfl⟩ | h
  · exact IR.nil _ _
  · exact own_IR h (by have := h.1; rw [icells_len] at this; omega)
theorem iappend_none (W : World) (ty : TypeId) (A B : Option Addr) (n c d : Nat) (h : n ≤ c) :
    (Builtin.append_ #[37, 37] ty #[.slice A n c, .slice B 0 d]).run Tryd.prog W = .ok (.slice A n c) W := by
  obtain ⟨ti, hi0, hz0, hz1, hz2⟩ := info_parts infoI
  cases A <;> cases B <;> simp [Builtin.append_, run_underlying Tryd.underlying37, sizeOf, typeInfo, hi0, h, Builtin.lenOf, Builtin.firstCells, loadCells, loadCellsFrom, storeCells]
set_option maxRecDepth 100000 in
/-- A row that can be read, appended to such. -/
theorem iappend_row {W : World} {base n c d m : Nat} {A B : Option Addr} {X Y : List ItL} (ho : IF W base (.slice A n c) n Y) (hs : IR W B X) (hm : X.length = m) (hn : n + m ≤ 65536) (hb : base ≤ W.heap.size) :
    ∃ A' c' W', (Builtin.append_ #[37, 37] 37 #[.slice A n c, .slice B m d]).run Tryd.prog W = .ok (.slice A' (n + m) c') W' ∧ IF W' base (.slice A' (n + m) c') (n + m) (Y ++ X) ∧ Below base W W' := by
  obtain ⟨ti, hi0, hz0, hz1, hz2⟩ := info_parts infoI
  by_cases h0 : X = []
  · subst h0
    obtain rfl : m = 0 := by rw [← hm]; rfl
    obtain ⟨A', c', e, hnc, _⟩ := ho.form
    injection e with _ _ e3
    subst e3
    exact ⟨A, c, W, iappend_none W _ A B n c d hnc, by simpa using ho, Below.refl _ _⟩
  · have hpos : 0 < X.length := List.length_pos_iff.2 h0
    obtain ⟨g, off, rfl, _⟩ := hs 0 hpos
    rcases ho with ⟨A1, e, rfl, rfl⟩ | ho
    · injection e with e1 _ e3
      subst e1
      subst e3
      have hown0 : W.ownsRow base 24 2 (.slice none 0 0) 0 [] := World.ownsRow_nil _ _ _ _
      have hnx : ((icells X).length = m * 2) := by rw [icells_len, hm]
      obtain ⟨v', w', hr, h2, h3, _⟩ := run_append_own (P := Tryd.prog) (ty := 37) W base 37 24 ti (.agg #[.int .u64 0, .string ⟨#[]⟩]) 2 24 Tryd.underlying37 hi0 hz0 hz1 hz2 rfl (by decide) (.slice none 0 0) 0 [] hown0 ⟨g, off, none⟩ m d (icells X) hnx hs.cells (icells_one X) (by unfold maxLen; omega) (by omega) hb
      obtain ⟨A', c', rfl, _⟩ := own_form h2
      refine ⟨A', c', w', ?_, .inr (by simpa using h2), (Below.refl _ _).grown h3 hb (fun k e => (hown0.lt k e).1)⟩
      cases A with
      | none => exact hr
      | some b =>
        rw [Nat.zero_add] at hr ⊢
        rw [← hr, run_append_nil (P := Tryd.prog) W 37 37 24 ti _ Tryd.underlying37 hi0 hz0 ⟨g, off, none⟩ m d (icells X) (by rw [hz1]; exact hnx) hs.cells (by omega) (by omega) (by rw [hz2]; omega)]
        have h9 := run_append_grow (P := Tryd.prog) W 37 37 24 ti _ Tryd.underlying37 hi0 hz0 b 0 0 [] (by simp) (by simp) ⟨g, off, none⟩ m d (icells X) (by rw [hz1]; exact hnx) hs.cells (by omega) (by omega) (by rw [Nat.zero_add, hz2]; have := nextslicecap_zero (show 0 < m by omega); rw [this]; omega)
        rw [h9]
        simp only [Nat.zero_add]
        simp
    · obtain ⟨v', w', hr, h2, h3, h4⟩ := run_append_own (P := Tryd.prog) W base 37 37 24 ti (.agg #[.int .u64 0, .string ⟨#[]⟩]) 2 24 Tryd.underlying37 hi0 hz0 hz1 hz2 rfl (by decide) (.slice A n c) n (icells Y) ho ⟨g, off, none⟩ m d (icells X) (by rw [icells_len, hm]) hs.cells (icells_one X) (by unfold maxLen; omega) (by omega) hb
      obtain ⟨A', c', rfl, _⟩ := own_form h2
      exact ⟨A', c', w', hr, .inr (by rw [icells_more]; exact h2), (Below.refl _ _).grown h3 hb (fun k e => (ho.lt k e).1)⟩
end Go.Proofs.YthllanndiahdjaaDoor
/- Lists of items that may be, what is put, dropped and found, and the hops of a search, in plain lists. Nothing of any function. -/
namespace Go.Proofs.YthllanndiahdjaaDoor

/-- An item's number, by its place. -/
abbrev ik (L : List ItL) (j : Nat) : Nat := (L.getD j (0, [])).1
/-- Whether a list may be. -/
def IRt (L : List ItL) : Prop := L.length ≤ 64 ∧ (∀ j, j < L.length → (L.getD j (0, [])).2.length ≤ 64) ∧ ∀ j, j < L.length → 0 < j → ik L (j - 1) < ik L j
instance (L : List ItL) : Decidable (IRt L) := by unfold IRt; infer_instance
/-- .. and the numbers rise. -/
def IUp (L : List ItL) : Prop := ∀ i j, i < j → j < L.length → ik L i < ik L j
theorem IRt.up {L : List ItL} (h : IRt L) : IUp L := by
  intro i j
  induction j with
  | zero => intro h1; omega
  | succ j ih =>
    intro hij hj
    have h1 := h.2.2 (j + 1) hj (by omega)
    rw [Nat.add_sub_cancel] at h1
    by_cases e : i = j
    · subst e; exact h1
    · exact Nat.lt_trans (ih (by omega) (by omega)) h1
theorem irt_of_up {L : List ItL} (h0 : L.length ≤ 64) (h1 : ∀ j, j < L.length → (L.getD j (0, [])).2.length ≤ 64) (h : IUp L) : IRt L :=
  ⟨h0, h1, fun j hj hp => h (j - 1) j (by omega) hj⟩
theorem iup_pairs {L : List ItL} : IUp L ↔ L.Pairwise (fun a b => a.1 < b.1) := by
  rw [List.pairwise_iff_getElem]
  constructor
  · intro h i j hi hj hij
    have := h i j hij hj
    simpa [ik, List.getD, hi, hj] using this
  · intro h i j hij hj
    have := h i j (by omega) hj hij
    have hi : i < L.length := by omega
    simpa [ik, List.getD, hi, hj] using this

/-- How many items' numbers are less than one. -/
def iless (L : List ItL) (k : Nat) : Nat := (L.filter fun x => decide (x.1 < k)).length
/-- .. not more. -/
def ileq (L : List ItL) (k : Nat) : Nat := (L.filter fun x => decide (x.1 ≤ k)).length
/-- Whether there is an item of a number. -/
def ihas (L : List ItL) (k : Nat) : Prop := ∃ x ∈ L, x.1 = k
instance (L : List ItL) (k : Nat) : Decidable (ihas L k) := by unfold ihas; infer_instance
/-- A list with an item, and without a number's. -/
def iput (L : List ItL) (x : ItL) : List ItL := L.filter (fun y => decide (y.1 < x.1)) ++ [x] ++ L.filter (fun y => decide (x.1 < y.1))
def idrop (L : List ItL) (k : Nat) : List ItL := L.filter fun y => decide (y.1 ≠ k)

/-- A place: ahead of it all are less, from it on none is. -/
def IPos (L : List ItL) (k p : Nat) : Prop := p ≤ L.length ∧ (∀ t, t < p → ik L t < k) ∧ ∀ t, p ≤ t → t < L.length → k ≤ ik L t
theorem ik_mem {L : List ItL} {j : Nat} (h : j < L.length) : L.getD j (0, []) ∈ L := by
  rw [List.getD, List.getElem?_eq_getElem h]; exact List.getElem_mem _
theorem iat_of_mem {L : List ItL} {x : ItL} (h : x ∈ L) : ∃ j, j < L.length ∧ L.getD j (0, []) = x := by
  obtain ⟨j, hj, rfl⟩ := List.getElem_of_mem h
  exact ⟨j, hj, by simp [List.getD, hj]⟩
theorem filter_cut {L : List ItL} (f : ItL → Bool) {p : Nat} (h1 : ∀ t, t < p → t < L.length → f (L.getD t (0, [])) = true) (h2 : ∀ t, p ≤ t → t < L.length → f (L.getD t (0, [])) = false) : L.filter f = L.take p := by
  induction L generalizing p with
  | nil => simp
  | cons x L ih =>
    cases p with
    | zero =>
      rw [List.take_zero, List.filter_eq_nil_iff]
      intro y hy
      obtain ⟨j, hj, rfl⟩ := iat_of_mem hy
      rw [h2 j (Nat.zero_le _) hj]; simp
    | succ p =>
      have hx := h1 0 (by omega) (by simp)
      rw [List.getD_cons_zero] at hx
      rw [List.filter_cons_of_pos hx, List.take_succ_cons, ih (p := p) (fun t ht hl => by have := h1 (t + 1) (by omega) (by simpa using hl); rwa [List.getD_cons_succ] at this) (fun t ht hl => by have := h2 (t + 1) (by omega) (by simpa using hl); rwa [List.getD_cons_succ] at this)]
theorem filter_rest {L : List ItL} (f : ItL → Bool) {p : Nat} (h1 : ∀ t, t < p → t < L.length → f (L.getD t (0, [])) = false) (h2 : ∀ t, p ≤ t → t < L.length → f (L.getD t (0, [])) = true) : L.filter f = L.drop p := by
  induction L generalizing p with
  | nil => simp
  | cons x L ih =>
    cases p with
    | zero =>
      rw [List.drop_zero, List.filter_eq_self]
      intro y hy
      obtain ⟨j, hj, rfl⟩ := iat_of_mem hy
      exact h2 j (Nat.zero_le _) hj
    | succ p =>
      have hx := h1 0 (by omega) (by simp)
      rw [List.getD_cons_zero] at hx
      rw [List.filter_cons_of_neg (by rw [hx]; simp), List.drop_succ_cons, ih (p := p) (fun t ht hl => by have := h1 (t + 1) (by omega) (by simpa using hl); rwa [List.getD_cons_succ] at this) (fun t ht hl => by have := h2 (t + 1) (by omega) (by simpa using hl); rwa [List.getD_cons_succ] at this)]
theorem IPos.has {L : List ItL} {k p : Nat} (h : IPos L k p) (hu : IUp L) : ihas L k ↔ p < L.length ∧ ik L p = k := by
  constructor
  · rintro ⟨x, hx, rfl⟩
    obtain ⟨j, hj, rfl⟩ := iat_of_mem hx
    have h1 : p ≤ j := by
      rcases Nat.lt_or_ge j p with h1 | h1
      · have := h.2.1 j h1; simp [ik] at this
      · exact h1
    rcases Nat.lt_or_ge p j with h2 | h2
    · have := hu p j h2 hj
      have := h.2.2 p (Nat.le_refl _) (by omega)
      simp only [ik] at *
      omega
    · obtain rfl : p = j := by omega
      exact ⟨hj, rfl⟩
  · rintro ⟨h1, h2⟩
    exact ⟨_, ik_mem h1, h2⟩
theorem IPos.is {L : List ItL} {k p : Nat} (h : IPos L k p) : L.filter (fun y => decide (y.1 < k)) = L.take p :=
  filter_cut _ (fun t ht hl => decide_eq_true (h.2.1 t ht)) (fun t ht hl => decide_eq_false (by have := h.2.2 t ht hl; simp only [ik] at this; omega))
theorem IPos.iless {L : List ItL} {k p : Nat} (h : IPos L k p) : iless L k = p := by
  rw [Go.Proofs.YthllanndiahdjaaDoor.iless, h.is, List.length_take, Nat.min_eq_left h.1]
theorem IPos.put_in {L : List ItL} {x : ItL} {p : Nat} (h : IPos L x.1 p) (hu : IUp L) (hp : p < L.length) (he : ik L p = x.1) : iput L x = L.take p ++ [x] ++ L.drop (p + 1) := by
  rw [iput, h.is, filter_rest (p := p + 1)]
  · intro t ht hl
    apply decide_eq_false
    rcases Nat.lt_or_ge t p with h1 | h1
    · have := h.2.1 t h1; simp only [ik] at this; omega
    · obtain rfl : t = p := by omega
      simp only [ik] at he; omega
  · intro t ht hl
    apply decide_eq_true
    have := hu p t (by omega) hl
    simp only [ik] at this he; omega
theorem IPos.put_new {L : List ItL} {x : ItL} {p : Nat} (h : IPos L x.1 p) (hn : ¬ ihas L x.1) : iput L x = L.take p ++ [x] ++ L.drop p := by
  rw [iput, h.is, filter_rest (p := p)]
  · intro t ht hl
    apply decide_eq_false
    have := h.2.1 t ht; simp only [ik] at this; omega
  · intro t ht hl
    apply decide_eq_true
    have := h.2.2 t ht hl
    have h3 : ik L t ≠ x.1 := fun e => hn ⟨_, ik_mem hl, e⟩
    simp only [ik] at this h3; omega
theorem IPos.drop_in {L : List ItL} {k p : Nat} (h : IPos L k p) (hu : IUp L) (hp : p < L.length) (he : ik L p = k) : idrop L k = L.take p ++ L.drop (p + 1) := by
  have e1 : L = L.take p ++ L.drop p := (List.take_append_drop p L).symm
  have e2 : L.drop p = L.getD p (0, []) :: L.drop (p + 1) := by rw [List.drop_eq_getElem_cons hp]; simp [List.getD, hp]
  rw [idrop]
  conv => lhs; rw [e1, e2, List.filter_append, List.filter_cons_of_neg (by have he2 : (L.getD p (0, [])).1 = k := he; rw [he2]; simp)]
  congr 1
  · rw [List.filter_eq_self]
    intro y hy
    obtain ⟨j, hj, rfl⟩ := List.getElem_of_mem hy
    rw [List.length_take] at hj
    have := h.2.1 j (by omega)
    have hj2 : j < L.length := by omega
    simp only [ik, List.getD, List.getElem?_eq_getElem hj2, Option.getD_some] at this
    simp only [List.getElem_take]
    exact decide_eq_true (by omega)
  · rw [List.filter_eq_self]
    intro y hy
    obtain ⟨j, hj, rfl⟩ := List.getElem_of_mem hy
    rw [List.length_drop] at hj
    have := hu p (p + 1 + j) (by omega) (by omega)
    have hj2 : p + 1 + j < L.length := by omega
    rw [he] at this
    simp only [ik, List.getD, List.getElem?_eq_getElem hj2, Option.getD_some] at this
    simp only [List.getElem_drop]
    exact decide_eq_true (by omega)
theorem idrop_none {L : List ItL} {k : Nat} (h : ¬ ihas L k) : idrop L k = L := by
  rw [idrop, List.filter_eq_self]
  intro y hy
  exact decide_eq_true fun e => h ⟨y, hy, e⟩
theorem idrop_not (L : List ItL) (k : Nat) : ¬ ihas (idrop L k) k := by
  rintro ⟨x, hx, e⟩
  have := (List.mem_filter.1 hx).2
  simp [e] at this

theorem iup_filter {L : List ItL} (f : ItL → Bool) (h : IUp L) : IUp (L.filter f) := by
  rw [iup_pairs] at h ⊢
  exact h.sublist List.filter_sublist
theorem iput_mem {L : List ItL} {x y : ItL} : y ∈ iput L x ↔ y = x ∨ (y ∈ L ∧ y.1 ≠ x.1) := by
  simp only [iput, List.mem_append, List.mem_filter, List.mem_singleton, decide_eq_true_eq]
  constructor
  · rintro ((⟨h1, h2⟩ | h) | ⟨h1, h2⟩)
    · exact .inr ⟨h1, by omega⟩
    · exact .inl h
    · exact .inr ⟨h1, by omega⟩
  · rintro (h | ⟨h1, h2⟩)
    · exact .inl (.inr h)
    · rcases Nat.lt_or_gt_of_ne h2 with h | h
      · exact .inl (.inl ⟨h1, h⟩)
      · exact .inr ⟨h1, h⟩
theorem iup_put {L : List ItL} (x : ItL) (h : IUp L) : IUp (iput L x) := by
  rw [iup_pairs] at h ⊢
  rw [iput, List.pairwise_append, List.pairwise_append]
  refine ⟨⟨h.sublist List.filter_sublist, List.pairwise_singleton _ _, ?_⟩, h.sublist List.filter_sublist, ?_⟩
  · intro a ha b hb
    rw [List.mem_singleton.1 hb]
    exact of_decide_eq_true (List.mem_filter.1 ha).2
  · intro a ha b hb
    have hb2 := of_decide_eq_true (List.mem_filter.1 hb).2
    rcases List.mem_append.1 ha with ha | ha
    · exact Nat.lt_trans (of_decide_eq_true (List.mem_filter.1 ha).2) hb2
    · rw [List.mem_singleton.1 ha]; exact hb2
/-- Lists that rise, and have the same items, are the same. -/
theorem iup_ext {L M : List ItL} (hL : IUp L) (hM : IUp M) (h : ∀ y, y ∈ L ↔ y ∈ M) : L = M := by
  rw [iup_pairs] at hL hM
  have d1 : L.Nodup := hL.imp fun {a b} hab e => by subst e; omega
  have d2 : M.Nodup := hM.imp fun {a b} hab e => by subst e; omega
  have hp : L.Perm M := (List.perm_ext_iff_of_nodup d1 d2).2 h
  exact hp.eq_of_pairwise (fun a b _ _ h1 h2 => by omega) hL hM
theorem iput_two {L : List ItL} {x y : ItL} (h : IUp L) (hn : x.1 ≠ y.1) : iput (iput L x) y = iput (iput L y) x := by
  refine iup_ext (iup_put y (iup_put x h)) (iup_put x (iup_put y h)) fun z => ?_
  simp only [iput_mem]
  constructor
  · rintro (rfl | ⟨rfl | ⟨h1, h2⟩, h3⟩)
    · exact .inr ⟨.inl rfl, fun e => hn e.symm⟩
    · exact .inl rfl
    · exact .inr ⟨.inr ⟨h1, h3⟩, h2⟩
  · rintro (rfl | ⟨rfl | ⟨h1, h2⟩, h3⟩)
    · exact .inr ⟨.inl rfl, hn⟩
    · exact .inl rfl
    · exact .inr ⟨.inr ⟨h1, h3⟩, h2⟩
theorem idrop_put {L : List ItL} {x : ItL} (h : IUp L) (hn : ¬ ihas L x.1) : idrop (iput L x) x.1 = L := by
  refine iup_ext (iup_filter _ (iup_put x h)) h fun z => ?_
  simp only [idrop, List.mem_filter, iput_mem, decide_eq_true_eq]
  constructor
  · rintro ⟨rfl | ⟨h1, h2⟩, h3⟩
    · exact absurd rfl h3
    · exact h1
  · intro h1
    have h2 : z.1 ≠ x.1 := fun e => hn ⟨z, h1, e⟩
    exact ⟨.inr ⟨h1, h2⟩, h2⟩
theorem iput_len {L : List ItL} (x : ItL) : (iput L x).length ≤ L.length + 1 := by
  have key : ∀ M : List ItL, (M.filter fun y => decide (y.1 < x.1)).length + (M.filter fun y => decide (x.1 < y.1)).length ≤ M.length := by
    intro M
    induction M with
    | nil => simp
    | cons y M ih =>
      by_cases h1 : y.1 < x.1
      · have h2 : ¬ x.1 < y.1 := by omega
        simp [h1, h2] at ih ⊢; omega
      · by_cases h2 : x.1 < y.1
        · simp [h1, h2] at ih ⊢; omega
        · simp [h1, h2] at ih ⊢; omega
  have := key L
  rw [iput, List.length_append, List.length_append, List.length_singleton]
  omega
theorem irt_val {L : List ItL} (h : ∀ x ∈ L, x.2.length ≤ 64) : ∀ j, j < L.length → (L.getD j (0, [])).2.length ≤ 64 := fun _ hj => h _ (ik_mem hj)
theorem IRt.val {L : List ItL} (h : IRt L) : ∀ x ∈ L, x.2.length ≤ 64 := fun x hx => by
  obtain ⟨j, hj, rfl⟩ := iat_of_mem hx
  exact h.2.1 j hj
/-- Those that are not more than a number are the first ones. -/
theorem ileq_len (L : List ItL) (k : Nat) : ileq L k ≤ L.length := List.length_filter_le _ _
theorem IPos.leq {L : List ItL} {k p : Nat} (h : IPos L k p) (hu : IUp L) : ileq L k = if p < L.length ∧ ik L p = k then p + 1 else p := by
  split
  · rename_i hh
    rw [ileq, filter_cut (p := p + 1), List.length_take, Nat.min_eq_left (by omega)]
    · intro t ht hl
      apply decide_eq_true
      rcases Nat.lt_or_ge t p with h1 | h1
      · have := h.2.1 t h1; simp only [ik] at this; omega
      · obtain rfl : t = p := by omega
        have := hh.2; simp only [ik] at this; omega
    · intro t ht hl
      apply decide_eq_false
      have := hu p t (by omega) hl
      have := hh.2
      simp only [ik] at *; omega
  · rename_i hh
    rw [ileq, filter_cut (p := p), List.length_take, Nat.min_eq_left h.1]
    · intro t ht hl
      apply decide_eq_true
      have := h.2.1 t ht; simp only [ik] at this; omega
    · intro t ht hl
      apply decide_eq_false
      have h1 := h.2.2 t ht hl
      rcases Nat.lt_or_ge p t with h2 | h2
      · have h3 := hu p t h2 hl
        have h4 := h.2.2 p (Nat.le_refl _) (by omega)
        simp only [ik] at *; omega
      · obtain rfl : t = p := by omega
        have : ik L t ≠ k := fun e => hh ⟨hl, e⟩
        simp only [ik] at *; omega
theorem ipos_less {L : List ItL} (k : Nat) (hu : IUp L) : IPos L k (iless L k) := by
  obtain ⟨p, hp⟩ : ∃ p, IPos L k p := by
    have key : ∀ n, n ≤ L.length → ∃ p, p ≤ n ∧ (∀ t, t < p → ik L t < k) ∧ ∀ t, p ≤ t → t < n → k ≤ ik L t := by
      intro n
      induction n with
      | zero => intro _; exact ⟨0, Nat.le_refl _, fun t h => by omega, fun t _ h => by omega⟩
      | succ n ih =>
        intro hn
        obtain ⟨p, h1, h2, h3⟩ := ih (by omega)
        by_cases he : ik L n < k
        · refine ⟨n + 1, Nat.le_refl _, fun t ht => ?_, fun t a b => by omega⟩
          rcases Nat.lt_or_ge t n with h4 | h4
          · have := hu t n h4 (by omega); omega
          · obtain rfl : t = n := by omega
            exact he
        · refine ⟨p, by omega, h2, fun t a b => ?_⟩
          rcases Nat.lt_or_ge t n with h4 | h4
          · exact h3 t a h4
          · obtain rfl : t = n := by omega
            omega
    exact key L.length (Nat.le_refl _)
  rw [hp.iless]
  exact hp
/-- What is put, or dropped, may be. -/
theorem irt_put {L : List ItL} {x : ItL} (h : IRt L) (hx : x.2.length ≤ 64) (hs : ihas L x.1 ∨ L.length < 64) : IRt (iput L x) := by
  refine irt_of_up ?_ (irt_val fun y hy => ?_) (iup_put x h.up)
  · rcases hs with ⟨y, hy, e⟩ | hs
    · have h1 : (iput L x).length ≤ L.length := by
        have hp := ipos_less x.1 h.up
        obtain ⟨e1, e2⟩ := (hp.has h.up).1 ⟨y, hy, e⟩
        rw [hp.put_in h.up e1 e2]
        simp
        omega
      have := h.1
      omega
    · have := iput_len (L := L) x; omega
  · rcases iput_mem.1 hy with rfl | ⟨hy, _⟩
    · exact hx
    · exact h.val y hy
theorem irt_drop {L : List ItL} {k : Nat} (h : IRt L) : IRt (idrop L k) := by
  refine irt_of_up ?_ (irt_val fun y hy => h.val y (List.mem_filter.1 hy).1) (iup_filter _ h.up)
  have := List.length_filter_le (fun y : ItL => decide (y.1 ≠ k)) L
  have := h.1
  rw [idrop]; omega

theorem ileq_in {L : List ItL} {k : Nat} (hu : IUp L) : ∀ t, t < L.length → (t < ileq L k ↔ ik L t ≤ k) := by
  intro t ht
  have hp := ipos_less k hu
  generalize iless L k = p at hp
  rw [hp.leq hu]
  split
  · rename_i hh
    constructor
    · intro h1
      rcases Nat.lt_or_ge t p with h2 | h2
      · have := hp.2.1 t h2; omega
      · obtain rfl : t = p := by omega
        omega
    · intro h1
      rcases Nat.lt_or_ge p t with h2 | h2
      · have := hu p t h2 ht; omega
      · omega
  · rename_i hh
    constructor
    · intro h1
      have := hp.2.1 t h1; omega
    · intro h1
      rcases Nat.lt_or_ge t p with h2 | h2
      · exact h2
      · have h3 := hp.2.2 t h2 ht
        have h4 : ik L t ≠ k := fun e => hh (by
          rcases Nat.lt_or_ge p t with h5 | h5
          · have := hu p t h5 ht
            have := hp.2.2 p (Nat.le_refl _) (by omega)
            omega
          · obtain rfl : t = p := by omega
            exact ⟨ht, e⟩)
        omega
end Go.Proofs.YthllanndiahdjaaDoor
/- The contracts of cmp.Compare, slices.BinarySearchFunc and placeOf. -/
namespace Go.Proofs.YthllanndiahdjaaDoor
open Go.RowKit

set_option maxRecDepth 100000 in
set_option maxHeartbeats 1000000 in
theorem inan_any (x : Nat) (w : World) :
    Calls Tryd.prog 75 #[vu x] w fun e w' => e = .returned (.bool false) ∧ w = w' := by
  go_enter Tryd.func75, Tryd.ntmps75
  go_wp2
  go_ret
  exact ⟨by simp, rfl⟩
/-- What cmp.Compare tells. -/
def icmp (a b : Nat) : Int := if a < b then -1 else if b < a then 1 else 0
set_option maxRecDepth 100000 in
set_option maxHeartbeats 1000000 in
theorem icmp_any (a b : Nat) (w : World) :
    Calls Tryd.prog 58 #[vu a, vu b] w fun e w' => e = .returned (.int .i64 (icmp a b)) ∧ w = w' := by
  have HN := Lib.hid (fun x W => inan_any x W)
  have hd1 : (a < b ∧ icmp a b = -1) ∨ (¬ a < b ∧ b < a ∧ icmp a b = 1) ∨ (¬ a < b ∧ ¬ b < a ∧ icmp a b = 0) := by
    unfold icmp
    by_cases h1 : a < b
    · exact .inl ⟨h1, by rw [if_pos h1]⟩
    · by_cases h2 : b < a
      · exact .inr (.inl ⟨h1, h2, by rw [if_neg h1, if_pos h2]⟩)
      · exact .inr (.inr ⟨h1, h2, by rw [if_neg h1, if_neg h2]⟩)
  rcases hd1 with ⟨h1, e⟩ | ⟨h1, h2, e⟩ | ⟨h1, h2, e⟩
  all_goals
    rw [e]
    clear e
    go_enter Tryd.func58, Tryd.ntmps58
    go_wp2_with fail
    refine (HN.out _ _).mono ?_
    rintro e w1 ⟨rfl, rfl⟩
    go_wp2_with fail
    refine (HN.out _ _).mono ?_
    rintro e w1 ⟨rfl, rfl⟩
    go_wp2
    go_ret
    exact ⟨rfl, rfl⟩
set_option maxRecDepth 100000 in
set_option maxHeartbeats 1000000 in
theorem iclo_any (x k : Nat) (s : List UInt8) (w : World) :
    Calls Tryd.prog 57 #[.agg #[vu x, sv s], vu k] w fun e w' => e = .returned (.int .i64 (icmp x k)) ∧ Below w.heap.size w w' := by
  have HC := Lib.hid (fun W => icmp_any x k W)
  go_enter Tryd.func57, Tryd.ntmps57
  go_wp2_with fail
  refine (HC.out _).mono ?_
  rintro e w1 ⟨rfl, rfl⟩
  go_wp2
  go_ret
  exact ⟨rfl, ba (Below.refl _ _) _⟩
theorem icmp_lt {a b : Nat} : icmp a b < 0 ↔ a < b := by unfold icmp; split <;> (try split) <;> omega
theorem icmp_eq {a b : Nat} : icmp a b = 0 ↔ a = b := by unfold icmp; split <;> (try split) <;> omega

set_option maxRecDepth 100000 in
set_option maxHeartbeats 4000000 in
theorem ibin_any (A : Option Addr) (n c k : Nat) (L : List ItL) (w : World) (hA : IR w A L) (hl : L.length = n) (hu : IUp L) (hn : n ≤ 65536) :
    Calls Tryd.prog 56 #[.slice A n c, vu k, .func (.func 57) #[] #[]] w fun e w' => ∃ p b, IPos L k p ∧ (b = true ↔ p < n ∧ ik L p = k) ∧ e = .returned (.tuple #[.int .i64 (p : Int), .bool b]) ∧ Below w.heap.size w w' := by
  have HA := Lib.hid hA
  have HC := Lib.hid (fun x s W => iclo_any x k s W)
  have HU := Lib.hid hu
  have HL := Lib.hid hl
  have HR : Hid (∀ lo, lo ≤ n → (∀ t, t < lo → ik L t < k) → (∀ t, lo ≤ t → t < n → k ≤ ik L t) → IPos L k lo) := Lib.hid fun lo h0 h1 h2 => ⟨by omega, h1, fun t a b => h2 t a (by omega)⟩
  clear hA hu hl
  go_enter Tryd.func56, Tryd.ntmps56
  go_wp2_with fail
  go_loopw [9, 10] (fun iv hv wr => ∃ lo hi : Nat, iv = .int .i64 (lo : Int) ∧ hv = .int .i64 (hi : Int) ∧ lo ≤ hi ∧ hi ≤ n ∧ Hid (∀ t, t < lo → ik L t < k) ∧ Hid (∀ t, hi ≤ t → t < n → k ≤ ik L t) ∧ Below w.heap.size w wr) (fun i h _ => (intOf h).toNat - (intOf i).toNat)
  case atStart => exact ⟨0, n, rfl, rfl, Nat.zero_le _, Nat.le_refl _, Lib.hid (fun t h => by omega), Lib.hid (fun t a b => by omega), Below.refl _ _⟩
  case round =>
    obtain ⟨lo, hi, rfl, rfl, hlh, hin, HLo, HHi, hb⟩ := hrel
    by_cases hlt : lo < hi
    · obtain ⟨m, hm⟩ : ∃ m, (lo + hi) / 2 = m := ⟨_, rfl⟩
      have em : ((lo : Int) + (hi : Int)) / 2 = (m : Int) := by omega
      have m0 : lo ≤ m := by omega
      have m1 : m < hi := by omega
      have m2 : (0 : Int) ≤ (m : Int) := by omega
      have m3 : (m : Int) < (n : Int) := by omega
      obtain ⟨g, off, rfl, c0, c1⟩ := (HA.out.later hb) m (by rw [HL.out]; omega)
      have HI1 : Hid ((L.getD m (0, [])).1 < k → ∀ t, t < m + 1 → ik L t < k) := Lib.hid fun h t ht => by
        rcases Nat.lt_or_ge t m with h1 | h1
        · have := HU.out t m h1 (by rw [HL.out]; omega); simp only [ik] at *; omega
        · obtain rfl : t = m := by omega
          exact h
      have HI2 : Hid (¬ (L.getD m (0, [])).1 < k → ∀ t, m ≤ t → t < n → k ≤ ik L t) := Lib.hid fun h t ht h2 => by
        rcases Nat.lt_or_ge m t with h1 | h1
        · have := HU.out m t h1 (by rw [HL.out]; omega); simp only [ik] at *; omega
        · obtain rfl : t = m := by omega
          simp only [ik]; omega
      generalize L.getD m (0, []) = x at *
      obtain ⟨xk, xs⟩ := x
      simp only at c0 c1 HI1 HI2
      have HCx := Lib.hid (fun W => HC.out xk xs W)
      have HX := Lib.hid (icmp_lt (a := xk) (b := k))
      generalize icmp xk k = cx at HCx HX
      by_cases hc : cx < 0
      · have HI3 := Lib.hid (HI1.out (HX.out.1 hc))
        go_wp2_with fail
        refine (HCx.out _).mono ?_
        rintro e w1 ⟨rfl, hb1⟩
        go_wp2
        exact ⟨⟨m + 1, hi, by go_num, rfl, by omega, hin, HI3, HHi, bt hb hb1⟩, by simp [intOf]; omega⟩
      · have HI3 := Lib.hid (HI2.out (fun h => hc (HX.out.2 h)))
        go_wp2_with fail
        refine (HCx.out _).mono ?_
        rintro e w1 ⟨rfl, hb1⟩
        go_wp2
        exact ⟨⟨lo, m, rfl, rfl, m0, by omega, HLo, HI3, bt hb hb1⟩, by simp [intOf]; omega⟩
    · obtain rfl : lo = hi := by omega
      have HP := Lib.hid (HR.out lo hin HLo.out HHi.out)
      rcases Nat.lt_or_ge lo n with h1 | h1
      · obtain ⟨g, off, rfl, c0, c1⟩ := (HA.out.later hb) lo (by rw [HL.out]; omega)
        have HD : Hid ((icmp (L.getD lo (0, [])).1 k == 0) = true ↔ lo < n ∧ ik L lo = k) := Lib.hid (by
          rw [beq_iff_eq, icmp_eq]
          exact ⟨fun e => ⟨h1, e⟩, fun h => h.2⟩)
        generalize L.getD lo (0, []) = x at *
        obtain ⟨xk, xs⟩ := x
        simp only at c0 c1
        have HCx := Lib.hid (fun W => HC.out xk xs W)
        generalize icmp xk k = cx at HCx HD
        have m2 : (0 : Int) ≤ (lo : Int) := by omega
        have m3 : (lo : Int) < (n : Int) := by omega
        go_wp2_with fail
        refine (HCx.out _).mono ?_
        rintro e w1 ⟨rfl, hb1⟩
        go_wp2
        go_ret2
        exact ⟨lo, _, HP.out, HD.out, rfl, bt hb hb1⟩
      · obtain rfl : lo = n := by omega
        go_wp2
        go_ret2
        exact ⟨lo, _, HP.out, by simp, rfl, hb⟩

set_option maxRecDepth 100000 in
set_option maxHeartbeats 1000000 in
theorem iplace_any (A : Option Addr) (n c k : Nat) (L : List ItL) (w : World) (hA : IR w A L) (hl : L.length = n) (hu : IUp L) (hn : n ≤ 65536) :
    Calls Tryd.prog 38 #[.slice A n c, vu k] w fun e w' => ∃ p b, IPos L k p ∧ (b = true ↔ p < n ∧ ik L p = k) ∧ e = .returned (.tuple #[.int .i64 (p : Int), .bool b]) ∧ Below w.heap.size w w' := by
  have HB := Lib.hid (ibin_any A n c k L w hA hl hu hn)
  clear hA hl hu
  go_enter Tryd.func38, Tryd.ntmps38
  go_wp2_with fail
  refine HB.out.mono ?_
  rintro e w1 ⟨p, b, hp, hq, rfl, hb⟩
  go_wp2
  go_ret2
  exact ⟨p, b, hp, hq, rfl, hb⟩
end Go.Proofs.YthllanndiahdjaaDoor
/- The contracts of numbers and upTo. -/
namespace Go.Proofs.YthllanndiahdjaaDoor
open Go.RowKit

/-- The items' numbers. -/
def ikeys (L : List ItL) : List Nat := L.map (·.1)
theorem ikeys_len (L : List ItL) : (ikeys L).length = L.length := by simp [ikeys]
theorem ikeys_at (L : List ItL) (j : Nat) (h : j < L.length) : (ikeys L).getD j 0 = (L.getD j (0, [])).1 := by
  simp [ikeys, List.getD, h]
theorem infoVU : (Tryd.prog.info? 22).map (fun i => (i.zero, i.size, i.bytes)) = some (some (.int .u64 0), 1, 8) := by kernel_rfl
theorem imake_words (n : Nat) (hn : n ≤ 65536) (W : World) : (Instr.makeSlice 79 (.int .i64 (n : Int)) (.int .i64 (n : Int))).run Tryd.prog W = .ok (.slice (some ⟨W.heap.size, 0, none⟩) n n) (W.alloc (.cells (Array.replicate n (vu 0)) 22)) := by
  obtain ⟨i0, hi, hz0, hz1, hz2⟩ := info_parts infoVU
  have h := run_makeSlice (P := Tryd.prog) (w := W) 79 22 i0 (.int .u64 0) Tryd.underlying79 hi hz0 .i64 .i64 n n (by omega) (by omega) (by rw [hz1]; omega) (by rw [hz2]; omega) (by omega)
  rw [hz1] at h
  have e : madeCells (Value.int .u64 0).cells ((n : Int).toNat * 1) = (Array.replicate n (vu 0)) := by
    simp [madeCells, Value.cells]
    apply Array.ext
    · simp
    · intro i h1 h2
      simp [Nat.mod_one]
  rw [e] at h
  exact h

end Go.Proofs.YthllanndiahdjaaDoor
