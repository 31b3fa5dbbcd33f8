/- Texts of this seat, one behind the other: IRow, IMath, IPlace, INumbers, IRight, IRefA, ILike. -/
import Derived.Laws.OwnMore
import Derived.BigQuiet
import Derived.Test.YtjonhenllhnibaaGreatDoorQ01
import Derived.Test.YtjonhenllhnibaaGreatDoorQ13
/- Rows of items, and of hops, in memory. Nothing of any function. -/
namespace Go.Proofs.YtjonhenllhnibaaGreatDoor
open Go.RowKit

/-- An item, and a hop. -/
abbrev ItL := Nat × List UInt8
abbrev HopL := Nat × Nat
/-- The cells of a row of them. -/
def icells (L : List ItL) : List Value := L.flatMap fun p => [vu p.1, sv p.2]
def hcells (L : List HopL) : List Value := L.flatMap fun p => [vi p.1, vi p.2]
theorem icells_len (L : List ItL) : (icells L).length = L.length * 2 := by
  induction L with
  | nil => rfl
  | cons p L ih => simp only [icells, List.flatMap_cons, List.length_append, List.length_cons, List.length_nil] at ih ⊢; omega
theorem hcells_len (L : List HopL) : (hcells L).length = L.length * 2 := by
  induction L with
  | nil => rfl
  | cons p L ih => simp only [hcells, List.flatMap_cons, List.length_append, List.length_cons, List.length_nil] at ih ⊢; omega
theorem icells_more (L M : List ItL) : icells (L ++ M) = icells L ++ icells M := by simp [icells]
theorem hcells_more (L M : List HopL) : hcells (L ++ M) = hcells L ++ hcells M := by simp [hcells]
theorem icells_two (L : List ItL) : ∀ k, k < L.length → (icells L)[k * 2]? = some (vu (L.getD k (0, [])).1) ∧ (icells L)[k * 2 + 1]? = some (sv (L.getD k (0, [])).2) := by
  induction L with
  | nil => intro k h; cases h
  | cons p L ih =>
    intro k h
    cases k with
    | zero => exact ⟨rfl, rfl⟩
    | succ k =>
      have := ih k (by simpa using h)
      rw [Nat.succ_mul]
      exact this
theorem hcells_two (L : List HopL) : ∀ k, k < L.length → (hcells L)[k * 2]? = some (vi (L.getD k (0, 0)).1) ∧ (hcells L)[k * 2 + 1]? = some (vi (L.getD k (0, 0)).2) := by
  induction L with
  | nil => intro k h; cases h
  | cons p L ih =>
    intro k h
    cases k with
    | zero => exact ⟨rfl, rfl⟩
    | succ k =>
      have := ih k (by simpa using h)
      rw [Nat.succ_mul]
      exact this
theorem icells_one (L : List ItL) : ∀ u ∈ icells L, u.oneCell' = true := by
  intro u hu
  simp only [icells, List.mem_flatMap] at hu
  obtain ⟨x, _, hx⟩ := hu
  simp at hx
  rcases hx with rfl | rfl <;> rfl
theorem hcells_one (L : List HopL) : ∀ u ∈ hcells L, u.oneCell' = true := by
  intro u hu
  simp only [hcells, List.mem_flatMap] at hu
  obtain ⟨x, _, hx⟩ := hu
  simp at hx
  rcases hx with rfl | rfl <;> rfl

/-- A row of items that can be read: where it lies, if it has any. -/
def IR (w : World) (A : Option Addr) (L : List ItL) : Prop :=
  ∀ j, j < L.length → ∃ g off, A = some ⟨g, off, none⟩ ∧ w.cell? ⟨g, off + j * 2, none⟩ = some (vu (L.getD j (0, [])).1) ∧ w.cell? ⟨g, off + j * 2 + 1, none⟩ = some (sv (L.getD j (0, [])).2)
/-- .. and one of hops. -/
def OR (w : World) (A : Option Addr) (L : List HopL) : Prop :=
  ∀ j, j < L.length → ∃ g off, A = some ⟨g, off, none⟩ ∧ w.cell? ⟨g, off + j * 2, none⟩ = some (vi (L.getD j (0, 0)).1) ∧ w.cell? ⟨g, off + j * 2 + 1, none⟩ = some (vi (L.getD j (0, 0)).2)
section
variable {w w' : World} {A : Option Addr} {L : List ItL}
theorem IR.later (h : IR w A L) (hb : Below w.heap.size w w') : IR w' A L := fun j hj => by
  obtain ⟨g, off, e, h0, h1⟩ := h j hj
  exact ⟨g, off, e, cell_later hb h0, cell_later hb h1⟩
theorem IR.nil (w : World) (A : Option Addr) : IR w A [] := fun j hj => absurd hj (by simp)
theorem IR.none (h : IR w none L) : L = [] := by
  cases L with
  | nil => rfl
  | cons x r => obtain ⟨g, off, e, _⟩ := h 0 (by simp); cases e
theorem IR.take (h : IR w A L) (m : Nat) : IR w A (L.take m) := fun j hj => by
  rw [List.length_take] at hj
  obtain ⟨g, off, e, h0, h1⟩ := h j (by omega)
  exact ⟨g, off, e, by rw [getD_take _ _ _ _ (by omega)]; exact h0, by rw [getD_take _ _ _ _ (by omega)]; exact h1⟩
theorem IR.drop {g off : Nat} (h : IR w (some ⟨g, off, Option.none⟩) L) (m : Nat) : IR w (some ⟨g, off + m * 2, Option.none⟩) (L.drop m) := fun j hj => by
  rw [List.length_drop] at hj
  obtain ⟨g', off', e, h0, h1⟩ := h (m + j) (by omega)
  obtain ⟨rfl, rfl⟩ : g = g' ∧ off = off' := by injection e with e; injection e with e1 e2; exact ⟨e1, e2⟩
  rw [Nat.add_mul, ← Nat.add_assoc] at h0 h1
  exact ⟨g, off + m * 2, rfl, by rw [getD_drop]; exact h0, by rw [getD_drop]; exact h1⟩
/-- .. and as cells. -/
theorem IR.cells {a : Addr} (h : IR w (some a) L) : ∀ j u, (icells L)[j]? = some u → w.cell? (a.add j) = some u := by
  intro j u hu
  have hj : j < (icells L).length := (List.getElem?_eq_some_iff.1 hu).1
  rw [icells_len] at hj
  obtain ⟨g, off, e, h0, h1⟩ := h (j / 2) (by omega)
  obtain rfl : a = ⟨g, off, Option.none⟩ := Option.some.inj e
  obtain ⟨p0, p1⟩ := icells_two L (j / 2) (by omega)
  rw [Go.WideShapes.add_plain]
  rcases (show j = j / 2 * 2 ∨ j = j / 2 * 2 + 1 by omega) with hj2 | hj2
  · rw [← hj2] at p0 h0
    rw [h0, ← p0, hu]
  · rw [← hj2] at p1
    rw [Nat.add_assoc, ← hj2] at h1
    rw [h1, ← p1, hu]
end
theorem OR.later {w w' : World} {A : Option Addr} {L : List HopL} (h : OR w A L) (hb : Below w.heap.size w w') : OR w' A L := fun j hj => by
  obtain ⟨g, off, e, h0, h1⟩ := h j hj
  exact ⟨g, off, e, cell_later hb h0, cell_later hb h1⟩
theorem OR.nil (w : World) (A : Option Addr) : OR w A [] := fun j hj => absurd hj (by simp)
theorem own_IR {W : World} {base : Nat} {A : Option Addr} {n c : Nat} {L : List ItL} (h : W.ownsRow base 42 2 (.slice A n c) n (icells L)) (hl : L.length = n) : IR W A L := by
  obtain ⟨A', c', e, hh⟩ := own_form h
  injection e with e1 e2 e3
  subst e1
  subst e3
  rcases hh with ⟨rfl, rfl, rfl⟩ | ⟨g, rfl, _⟩
  · obtain rfl : L = [] := List.eq_nil_of_length_eq_zero hl
    exact IR.nil _ _
  · intro j hj
    obtain ⟨p0, p1⟩ := icells_two L j hj
    exact ⟨g, 0, rfl, by rw [Nat.zero_add, h.cellAt (j * 2) (by omega), p0], by rw [Nat.zero_add, h.cellAt (j * 2 + 1) (by omega), p1]⟩
theorem blk_IR {W : World} {g : Nat} {t : TypeId} {L : List ItL} (h : Blk W g t (icells L).toArray) : IR W (some ⟨g, 0, none⟩) L := fun j hj => by
  obtain ⟨p0, p1⟩ := icells_two L j hj
  exact ⟨g, 0, rfl, by rw [Nat.zero_add, h.cell, List.getElem?_toArray, p0], by rw [Nat.zero_add, h.cell, List.getElem?_toArray, p1]⟩
theorem infoI : (Tryz.prog.info? 42).map (fun i => (i.zero, i.size, i.bytes)) = some (some (.agg #[.int .u64 0, .string ⟨#[]⟩]), 2, 24) := by kernel_rfl
/-- A row cut to its beginning, to nothing without room, and from a place on. -/
theorem icut_run (A : Option Addr) (len cap m : Nat) (hm : m ≤ cap) (W : World) : (Instr.slice 22 (.slice A len cap) none (some (.int .i64 (m : Int))) none).run Tryz.prog W = .ok (.slice A m cap) W := by
  obtain ⟨i, hi⟩ : ∃ i, Tryz.prog.info? 42 = some i := Option.isSome_iff_exists.1 (by kernel_rfl)
  have hb : (Instr.sliceBounds true len cap none (some (.int .i64 (m : Int))) none).run Tryz.prog W = .ok (0, m, cap) W := by
    have h1 : (0 : Int) ≤ (m : Int) ∧ (m : Int) ≤ (cap : Int) := by omega
    simp [Instr.sliceBounds, Instr.sliceBound, asIntOf, h1]
    omega
  have hA : (if cap = 0 then A else A.map fun x => x.add (0 * i.size)) = A := by
    split
    · rfl
    · cases A <;> simp [Addr.add]
  simp [Instr.slice, run_underlying (P := Tryz.prog) (w := W) Tryz.underlying22, hb, sizeOf, typeInfo, hi]
  simpa using hA
theorem icut0_run (A : Option Addr) (len cap : Nat) (W : World) : (Instr.slice 22 (.slice A len cap) none (some (.int .i64 0)) (some (.int .i64 0))).run Tryz.prog W = .ok (.slice A 0 0) W := by
  obtain ⟨i, hi⟩ : ∃ i, Tryz.prog.info? 42 = some i := Option.isSome_iff_exists.1 (by kernel_rfl)
  have hb : (Instr.sliceBounds true len cap none (some (.int .i64 0)) (some (.int .i64 0))).run Tryz.prog W = .ok (0, 0, 0) W := by
    have h1 : (0 : Int) ≤ (cap : Int) := by omega
    simp [Instr.sliceBounds, Instr.sliceBound, asIntOf, h1]
  simp [Instr.slice, run_underlying (P := Tryz.prog) (w := W) Tryz.underlying22, hb, sizeOf, typeInfo, hi]
set_option maxRecDepth 100000 in
theorem ifrom_run (A : Option Addr) (L : List ItL) (n c k : Nat) (hl : L.length = n) (hk : k ≤ n) (hc : n ≤ c) :
    ∃ A' : Option Addr, (∀ W : World, (Instr.slice 22 (.slice A n c) (some (.int .i64 (k : Int))) none none).run Tryz.prog W = .ok (.slice A' (n - k) (c - k)) W) ∧ ∀ W, IR W A L → IR W A' (L.drop k) := by
  refine ⟨if c = k then A else A.map (·.add (k * 2)), fun W => ?_, fun W h => ?_⟩
  · rw [run_slice_l (P := Tryz.prog) W _ _ _ _ Tryz.underlying22 .i64 (k : Int) (by omega) (by omega)]
    go_simp
  · by_cases hkn : k = n
    · subst hkn
      rw [List.drop_of_length_le (by omega)]
      exact IR.nil _ _
    · obtain ⟨g, off, rfl, _⟩ := h k (by omega)
      rw [if_neg (by omega)]
      simp only [Option.map_some]
      have := h.drop k
      rw [show (⟨g, off, none⟩ : Addr).add (k * 2) = ⟨g, off + k * 2, none⟩ from Go.WideShapes.add_plain _ _ _]
      exact this

/-- A row that the call made, or one of nothing without room. -/
def IF (W : World) (base : Nat) (v : Value) (n : Nat) (X : List ItL) : Prop :=
  (∃ A, v = .slice A 0 0 ∧ n = 0 ∧ X = []) ∨ W.ownsRow base 42 2 v n (icells X)
theorem IF.form {W : World} {base : Nat} {v : Value} {n : Nat} {X : List ItL} (h : IF W base v n X) : ∃ A c, v = .slice A n c ∧ n ≤ c ∧ (X.length = n) := by
  rcases h with ⟨A, rfl, rfl, rfl⟩ | h
  · exact ⟨A, 0, rfl, Nat.le_refl _, rfl⟩
  · have hl : X.length = n := by have := h.1; rw [icells_len] at this; omega
    obtain ⟨A', c', e, hh⟩ := own_form h
    refine ⟨A', c', e, ?_, hl⟩
    rcases hh with ⟨_, h1, h2⟩ | ⟨_, _, h1, _⟩ <;> omega
theorem IF.read {W : World} {base : Nat} {A : Option Addr} {n c : Nat} {X : List ItL} (h : IF W base (.slice A n c) n X) : IR W A X := by
  rcases h with ⟨B, e, rfl, rfl⟩ | h
  · exact IR.nil _ _
  · exact own_IR h (by have := h.1; rw [icells_len] at this; omega)
theorem iappend_none (W : World) (ty : TypeId) (A B : Option Addr) (n c d : Nat) (h : n ≤ c) :
    (Builtin.append_ #[22, 22] ty #[.slice A n c, .slice B 0 d]).run Tryz.prog W = .ok (.slice A n c) W := by
  obtain ⟨ti, hi0, hz0, hz1, hz2⟩ := info_parts infoI
  cases A <;> cases B <;> simp [Builtin.append_, run_underlying Tryz.underlying22, sizeOf, typeInfo, hi0, h, Builtin.lenOf, Builtin.firstCells, loadCells, loadCellsFrom, storeCells]
set_option maxRecDepth 100000 in
/-- A row that can be read, appended to such. -/
theorem iappend_row {W : World} {base n c d m : Nat} {A B : Option Addr} {X Y : List ItL} (ho : IF W base (.slice A n c) n Y) (hs : IR W B X) (hm : X.length = m) (hn : n + m ≤ 65536) (hb : base ≤ W.heap.size) :
    ∃ A' c' W', (Builtin.append_ #[22, 22] 22 #[.slice A n c, .slice B m d]).run Tryz.prog W = .ok (.slice A' (n + m) c') W' ∧ IF W' base (.slice A' (n + m) c') (n + m) (Y ++ X) ∧ Below base W W' := by
  obtain ⟨ti, hi0, hz0, hz1, hz2⟩ := info_parts infoI
  by_cases h0 : X = []
  · subst h0
    obtain rfl : m = 0 := by rw [← hm]; rfl
    obtain ⟨A', c', e, hnc, _⟩ := ho.form
    injection e with _ _ e3
    subst e3
    exact ⟨A, c, W, iappend_none W _ A B n c d hnc, by simpa using ho, Below.refl _ _⟩
  · have hpos : 0 < X.length := List.length_pos_iff.2 h0
    obtain ⟨g, off, rfl, _⟩ := hs 0 hpos
    rcases ho with ⟨A1, e, rfl, rfl⟩ | ho
    · injection e with e1 _ e3
      subst e1
      subst e3
      have hown0 : W.ownsRow base 42 2 (.slice none 0 0) 0 [] := World.ownsRow_nil _ _ _ _
      have hnx : ((icells X).length = m * 2) := by rw [icells_len, hm]
      obtain ⟨v', w', hr, h2, h3, _⟩ := run_append_own (P := Tryz.prog) (ty := 22) W base 22 42 ti (.agg #[.int .u64 0, .string ⟨#[]⟩]) 2 24 Tryz.underlying22 hi0 hz0 hz1 hz2 rfl (by decide) (.slice none 0 0) 0 [] hown0 ⟨g, off, none⟩ m d (icells X) hnx hs.cells (icells_one X) (by unfold maxLen; omega) (by omega) hb
      obtain ⟨A', c', rfl, _⟩ := own_form h2
      refine ⟨A', c', w', ?_, .inr (by simpa using h2), (Below.refl _ _).grown h3 hb (fun k e => (hown0.lt k e).1)⟩
      cases A with
      | none => exact hr
      | some b =>
        rw [Nat.zero_add] at hr ⊢
        rw [← hr, run_append_nil (P := Tryz.prog) W 22 22 42 ti _ Tryz.underlying22 hi0 hz0 ⟨g, off, none⟩ m d (icells X) (by rw [hz1]; exact hnx) hs.cells (by omega) (by omega) (by rw [hz2]; omega)]
        have h9 := run_append_grow (P := Tryz.prog) W 22 22 42 ti _ Tryz.underlying22 hi0 hz0 b 0 0 [] (by simp) (by simp) ⟨g, off, none⟩ m d (icells X) (by rw [hz1]; exact hnx) hs.cells (by omega) (by omega) (by rw [Nat.zero_add, hz2]; have := nextslicecap_zero (show 0 < m by omega); rw [this]; omega)
        rw [h9]
        simp only [Nat.zero_add]
        simp
    · obtain ⟨v', w', hr, h2, h3, h4⟩ := run_append_own (P := Tryz.prog) W base 22 22 42 ti (.agg #[.int .u64 0, .string ⟨#[]⟩]) 2 24 Tryz.underlying22 hi0 hz0 hz1 hz2 rfl (by decide) (.slice A n c) n (icells Y) ho ⟨g, off, none⟩ m d (icells X) (by rw [icells_len, hm]) hs.cells (icells_one X) (by unfold maxLen; omega) (by omega) hb
      obtain ⟨A', c', rfl, _⟩ := own_form h2
      exact ⟨A', c', w', hr, .inr (by rw [icells_more]; exact h2), (Below.refl _ _).grown h3 hb (fun k e => (ho.lt k e).1)⟩
end Go.Proofs.YtjonhenllhnibaaGreatDoor
/- Lists of items that may be, what is put, dropped and found, and the hops of a search, in plain lists. Nothing of any function. -/
namespace Go.Proofs.YtjonhenllhnibaaGreatDoor

/-- An item's number, by its place. -/
abbrev ik (L : List ItL) (j : Nat) : Nat := (L.getD j (0, [])).1
/-- Whether a list may be. -/
def IRt (L : List ItL) : Prop := L.length ≤ 64 ∧ (∀ j, j < L.length → (L.getD j (0, [])).2.length ≤ 64) ∧ ∀ j, j < L.length → 0 < j → ik L (j - 1) < ik L j
instance (L : List ItL) : Decidable (IRt L) := by unfold IRt; infer_instance
/-- .. and the numbers rise. -/
def IUp (L : List ItL) : Prop := ∀ i j, i < j → j < L.length → ik L i < ik L j
theorem IRt.up {L : List ItL} (h : IRt L) : IUp L := by
  intro i j
  induction j with
  | zero => intro h1; omega
  | succ j ih =>
    intro hij hj
    have h1 := h.2.2 (j + 1) hj (by omega)
    rw [Nat.add_sub_cancel] at h1
    by_cases e : i = j
    · subst e; exact h1
    · exact Nat.lt_trans (ih (by omega) (by omega)) h1
theorem irt_of_up {L : List ItL} (h0 : L.length ≤ 64) (h1 : ∀ j, j < L.length → (L.getD j (0, [])).2.length ≤ 64) (h : IUp L) : IRt L :=
  ⟨h0, h1, fun j hj hp => h (j - 1) j (by omega) hj⟩
theorem iup_pairs {L : List ItL} : IUp L ↔ L.Pairwise (fun a b => a.1 < b.1) := by
  rw [List.pairwise_iff_getElem]
  constructor
  · intro h i j hi hj hij
    have := h i j hij hj
    simpa [ik, List.getD, hi, hj] using this
  · intro h i j hij hj
    have := h i j (by omega) hj hij
    have hi : i < L.length := by omega
    simpa [ik, List.getD, hi, hj] using this

/-- How many items' numbers are less than one. -/
def iless (L : List ItL) (k : Nat) : Nat := (L.filter fun x => decide (x.1 < k)).length
/-- .. not more. -/
def ileq (L : List ItL) (k : Nat) : Nat := (L.filter fun x => decide (x.1 ≤ k)).length
/-- Whether there is an item of a number. -/
def ihas (L : List ItL) (k : Nat) : Prop := ∃ x ∈ L, x.1 = k
instance (L : List ItL) (k : Nat) : Decidable (ihas L k) := by unfold ihas; infer_instance
/-- A list with an item, and without a number's. -/
def iput (L : List ItL) (x : ItL) : List ItL := L.filter (fun y => decide (y.1 < x.1)) ++ [x] ++ L.filter (fun y => decide (x.1 < y.1))
def idrop (L : List ItL) (k : Nat) : List ItL := L.filter fun y => decide (y.1 ≠ k)

/-- A place: ahead of it all are less, from it on none is. -/
def IPos (L : List ItL) (k p : Nat) : Prop := p ≤ L.length ∧ (∀ t, t < p → ik L t < k) ∧ ∀ t, p ≤ t → t < L.length → k ≤ ik L t
theorem ik_mem {L : List ItL} {j : Nat} (h : j < L.length) : L.getD j (0, []) ∈ L := by
  rw [List.getD, List.getElem?_eq_getElem h]; exact List.getElem_mem _
theorem iat_of_mem {L : List ItL} {x : ItL} (h : x ∈ L) : ∃ j, j < L.length ∧ L.getD j (0, []) = x := by
  obtain ⟨j, hj, rfl⟩ := List.getElem_of_mem h
  exact ⟨j, hj, by simp [List.getD, hj]⟩
theorem filter_cut {L : List ItL} (f : ItL → Bool) {p : Nat} (h1 : ∀ t, t < p → t < L.length → f (L.getD t (0, [])) = true) (h2 : ∀ t, p ≤ t → t < L.length → f (L.getD t (0, [])) = false) : L.filter f = L.take p := by
  induction L generalizing p with
  | nil => simp
  | cons x L ih =>
    cases p with
    | zero =>
      rw [List.take_zero, List.filter_eq_nil_iff]
      intro y hy
      obtain ⟨j, hj, rfl⟩ := iat_of_mem hy
      rw [h2 j (Nat.zero_le _) hj]; simp
    | succ p =>
      have hx := h1 0 (by omega) (by simp)
      rw [List.getD_cons_zero] at hx
      rw [List.filter_cons_of_pos hx, List.take_succ_cons, ih (p := p) (fun t ht hl => by have := h1 (t + 1) (by omega) (by simpa using hl); rwa [List.getD_cons_succ] at this) (fun t ht hl => by have := h2 (t + 1) (by omega) (by simpa using hl); rwa [List.getD_cons_succ] at this)]
theorem filter_rest {L : List ItL} (f : ItL → Bool) {p : Nat} (h1 : ∀ t, t < p → t < L.length → f (L.getD t (0, [])) = false) (h2 : ∀ t, p ≤ t → t < L.length → f (L.getD t (0, [])) = true) : L.filter f = L.drop p := by
  induction L generalizing p with
  | nil => simp
  | cons x L ih =>
    cases p with
    | zero =>
      rw [List.drop_zero, List.filter_eq_self]
      intro y hy
      obtain ⟨j, hj, rfl⟩ := iat_of_mem hy
      exact h2 j (Nat.zero_le _) hj
    | succ p =>
      have hx := h1 0 (by omega) (by simp)
      rw [List.getD_cons_zero] at hx
      rw [List.filter_cons_of_neg (by rw [hx]; simp), List.drop_succ_cons, ih (p := p) (fun t ht hl => by have := h1 (t + 1) (by omega) (by simpa using hl); rwa [List.getD_cons_succ] at this) (fun t ht hl => by have := h2 (t + 1) (by omega) (by simpa using hl); rwa [List.getD_cons_succ] at this)]
theorem IPos.has {L : List ItL} {k p : Nat} (h : IPos L k p) (hu : IUp L) : ihas L k ↔ p < L.length ∧ ik L p = k := by
  constructor
  · rintro ⟨x, hx, rfl⟩
    obtain ⟨j, hj, rfl⟩ := iat_of_mem hx
    have h1 : p ≤ j := by
      rcases Nat.lt_or_ge j p with h1 | h1
      · have := h.2.1 j h1; simp [ik] at this
      · exact h1
    rcases Nat.lt_or_ge p j with h2 | h2
    · have := hu p j h2 hj
      have := h.2.2 p (Nat.le_refl _) (by omega)
      simp only [ik] at *
      omega
    · obtain rfl : p = j := by omega
      exact ⟨hj, rfl⟩
  · rintro ⟨h1, h2⟩
    exact ⟨_, ik_mem h1, h2⟩
theorem IPos.is {L : List ItL} {k p : Nat} (h : IPos L k p) : L.filter (fun y => decide (y.1 < k)) = L.take p :=
  filter_cut _ (fun t ht hl => decide_eq_true (h.2.1 t ht)) (fun t ht hl => decide_eq_false (by have := h.2.2 t ht hl; simp only [ik] at this; omega))
theorem IPos.iless {L : List ItL} {k p : Nat} (h : IPos L k p) : iless L k = p := by
  rw [Go.Proofs.YtjonhenllhnibaaGreatDoor.iless, h.is, List.length_take, Nat.min_eq_left h.1]
theorem IPos.put_in {L : List ItL} {x : ItL} {p : Nat} (h : IPos L x.1 p) (hu : IUp L) (hp : p < L.length) (he : ik L p = x.1) : iput L x = L.take p ++ [x] ++ L.drop (p + 1) := by
  rw [iput, h.is, filter_rest (p := p + 1)]
  · intro t ht hl
    apply decide_eq_false
    rcases Nat.lt_or_ge t p with h1 | h1
    · have := h.2.1 t h1; simp only [ik] at this; omega
    · obtain rfl : t = p := by omega
      simp only [ik] at he; omega
  · intro t ht hl
    apply decide_eq_true
    have := hu p t (by omega) hl
    simp only [ik] at this he; omega
theorem IPos.put_new {L : List ItL} {x : ItL} {p : Nat} (h : IPos L x.1 p) (hn : ¬ ihas L x.1) : iput L x = L.take p ++ [x] ++ L.drop p := by
  rw [iput, h.is, filter_rest (p := p)]
  · intro t ht hl
    apply decide_eq_false
    have := h.2.1 t ht; simp only [ik] at this; omega
  · intro t ht hl
    apply decide_eq_true
    have := h.2.2 t ht hl
    have h3 : ik L t ≠ x.1 := fun e => hn ⟨_, ik_mem hl, e⟩
    simp only [ik] at this h3; omega
theorem IPos.drop_in {L : List ItL} {k p : Nat} (h : IPos L k p) (hu : IUp L) (hp : p < L.length) (he : ik L p = k) : idrop L k = L.take p ++ L.drop (p + 1) := by
  have e1 : L = L.take p ++ L.drop p := (List.take_append_drop p L).symm
  have e2 : L.drop p = L.getD p (0, []) :: L.drop (p + 1) := by rw [List.drop_eq_getElem_cons hp]; simp [List.getD, hp]
  rw [idrop]
  conv => lhs; rw [e1, e2, List.filter_append, List.filter_cons_of_neg (by have he2 : (L.getD p (0, [])).1 = k := he; rw [he2]; simp)]
  congr 1
  · rw [List.filter_eq_self]
    intro y hy
    obtain ⟨j, hj, rfl⟩ := List.getElem_of_mem hy
    rw [List.length_take] at hj
    have := h.2.1 j (by omega)
    have hj2 : j < L.length := by omega
    simp only [ik, List.getD, List.getElem?_eq_getElem hj2, Option.getD_some] at this
    simp only [List.getElem_take]
    exact decide_eq_true (by omega)
  · rw [List.filter_eq_self]
    intro y hy
    obtain ⟨j, hj, rfl⟩ := List.getElem_of_mem hy
    rw [List.length_drop] at hj
    have := hu p (p + 1 + j) (by omega) (by omega)
    have hj2 : p + 1 + j < L.length := by omega
    rw [he] at this
    simp only [ik, List.getD, List.getElem?_eq_getElem hj2, Option.getD_some] at this
    simp only [List.getElem_drop]
    exact decide_eq_true (by omega)
theorem idrop_none {L : List ItL} {k : Nat} (h : ¬ ihas L k) : idrop L k = L := by
  rw [idrop, List.filter_eq_self]
  intro y hy
  exact decide_eq_true fun e => h ⟨y, hy, e⟩
theorem idrop_not (L : List ItL) (k : Nat) : ¬ ihas (idrop L k) k := by
  rintro ⟨x, hx, e⟩
  have := (List.mem_filter.1 hx).2
  simp [e] at this

theorem iup_filter {L : List ItL} (f : ItL → Bool) (h : IUp L) : IUp (L.filter f) := by
  rw [iup_pairs] at h ⊢
  exact h.sublist List.filter_sublist
theorem iput_mem {L : List ItL} {x y : ItL} : y ∈ iput L x ↔ y = x ∨ (y ∈ L ∧ y.1 ≠ x.1) := by
  simp only [iput, List.mem_append, List.mem_filter, List.mem_singleton, decide_eq_true_eq]
  constructor
  · rintro ((⟨h1, h2⟩ | h) | ⟨h1, h2⟩)
    · exact .inr ⟨h1, by omega⟩
    · exact .inl h
    · exact .inr ⟨h1, by omega⟩
  · rintro (h | ⟨h1, h2⟩)
    · exact .inl (.inr h)
    · rcases Nat.lt_or_gt_of_ne h2 with h | h
      · exact .inl (.inl ⟨h1, h⟩)
      · exact .inr ⟨h1, h⟩
theorem iup_put {L : List ItL} (x : ItL) (h : IUp L) : IUp (iput L x) := by
  rw [iup_pairs] at h ⊢
  rw [iput, List.pairwise_append, List.pairwise_append]
  refine ⟨⟨h.sublist List.filter_sublist, List.pairwise_singleton _ _, ?_⟩, h.sublist List.filter_sublist, ?_⟩
  · intro a ha b hb
    rw [List.mem_singleton.1 hb]
    exact of_decide_eq_true (List.mem_filter.1 ha).2
  · intro a ha b hb
    have hb2 := of_decide_eq_true (List.mem_filter.1 hb).2
    rcases List.mem_append.1 ha with ha | ha
    · exact Nat.lt_trans (of_decide_eq_true (List.mem_filter.1 ha).2) hb2
    · rw [List.mem_singleton.1 ha]; exact hb2
/-- Lists that rise, and have the same items, are the same. -/
theorem iup_ext {L M : List ItL} (hL : IUp L) (hM : IUp M) (h : ∀ y, y ∈ L ↔ y ∈ M) : L = M := by
  rw [iup_pairs] at hL hM
  have d1 : L.Nodup := hL.imp fun {a b} hab e => by subst e; omega
  have d2 : M.Nodup := hM.imp fun {a b} hab e => by subst e; omega
  have hp : L.Perm M := (List.perm_ext_iff_of_nodup d1 d2).2 h
  exact hp.eq_of_pairwise (fun a b _ _ h1 h2 => by omega) hL hM
theorem iput_two {L : List ItL} {x y : ItL} (h : IUp L) (hn : x.1 ≠ y.1) : iput (iput L x) y = iput (iput L y) x := by
  refine iup_ext (iup_put y (iup_put x h)) (iup_put x (iup_put y h)) fun z => ?_
  simp only [iput_mem]
  constructor
  · rintro (rfl | ⟨rfl | ⟨h1, h2⟩, h3⟩)
    · exact .inr ⟨.inl rfl, fun e => hn e.symm⟩
    · exact .inl rfl
    · exact .inr ⟨.inr ⟨h1, h3⟩, h2⟩
  · rintro (rfl | ⟨rfl | ⟨h1, h2⟩, h3⟩)
    · exact .inr ⟨.inl rfl, hn⟩
    · exact .inl rfl
    · exact .inr ⟨.inr ⟨h1, h3⟩, h2⟩
theorem idrop_put {L : List ItL} {x : ItL} (h : IUp L) (hn : ¬ ihas L x.1) : idrop (iput L x) x.1 = L := by
  refine iup_ext (iup_filter _ (iup_put x h)) h fun z => ?_
  simp only [idrop, List.mem_filter, iput_mem, decide_eq_true_eq]
  constructor
  · rintro ⟨rfl | ⟨h1, h2⟩, h3⟩
    · exact absurd rfl h3
    · exact h1
  · intro h1
    have h2 : z.1 ≠ x.1 := fun e => hn ⟨z, h1, e⟩
    exact ⟨.inr ⟨h1, h2⟩, h2⟩
theorem iput_len {L : List ItL} (x : ItL) : (iput L x).length ≤ L.length + 1 := by
  have key : ∀ M : List ItL, (M.filter fun y => decide (y.1 < x.1)).length + (M.filter fun y => decide (x.1 < y.1)).length ≤ M.length := by
    intro M
    induction M with
    | nil => simp
    | cons y M ih =>
      by_cases h1 : y.1 < x.1
      · have h2 : ¬ x.1 < y.1 := by omega
        simp [h1, h2] at ih ⊢; omega
      · by_cases h2 : x.1 < y.1
        · simp [h1, h2] at ih ⊢; omega
        · simp [h1, h2] at ih ⊢; omega
  have := key L
  rw [iput, List.length_append, List.length_append, List.length_singleton]
  omega
theorem irt_val {L : List ItL} (h : ∀ x ∈ L, x.2.length ≤ 64) : ∀ j, j < L.length → (L.getD j (0, [])).2.length ≤ 64 := fun _ hj => h _ (ik_mem hj)
theorem IRt.val {L : List ItL} (h : IRt L) : ∀ x ∈ L, x.2.length ≤ 64 := fun x hx => by
  obtain ⟨j, hj, rfl⟩ := iat_of_mem hx
  exact h.2.1 j hj
/-- Those that are not more than a number are the first ones. -/
theorem ileq_len (L : List ItL) (k : Nat) : ileq L k ≤ L.length := List.length_filter_le _ _
theorem IPos.leq {L : List ItL} {k p : Nat} (h : IPos L k p) (hu : IUp L) : ileq L k = if p < L.length ∧ ik L p = k then p + 1 else p := by
  split
  · rename_i hh
    rw [ileq, filter_cut (p := p + 1), List.length_take, Nat.min_eq_left (by omega)]
    · intro t ht hl
      apply decide_eq_true
      rcases Nat.lt_or_ge t p with h1 | h1
      · have := h.2.1 t h1; simp only [ik] at this; omega
      · obtain rfl : t = p := by omega
        have := hh.2; simp only [ik] at this; omega
    · intro t ht hl
      apply decide_eq_false
      have := hu p t (by omega) hl
      have := hh.2
      simp only [ik] at *; omega
  · rename_i hh
    rw [ileq, filter_cut (p := p), List.length_take, Nat.min_eq_left h.1]
    · intro t ht hl
      apply decide_eq_true
      have := h.2.1 t ht; simp only [ik] at this; omega
    · intro t ht hl
      apply decide_eq_false
      have h1 := h.2.2 t ht hl
      rcases Nat.lt_or_ge p t with h2 | h2
      · have h3 := hu p t h2 hl
        have h4 := h.2.2 p (Nat.le_refl _) (by omega)
        simp only [ik] at *; omega
      · obtain rfl : t = p := by omega
        have : ik L t ≠ k := fun e => hh ⟨hl, e⟩
        simp only [ik] at *; omega
theorem ipos_less {L : List ItL} (k : Nat) (hu : IUp L) : IPos L k (iless L k) := by
  obtain ⟨p, hp⟩ : ∃ p, IPos L k p := by
    have key : ∀ n, n ≤ L.length → ∃ p, p ≤ n ∧ (∀ t, t < p → ik L t < k) ∧ ∀ t, p ≤ t → t < n → k ≤ ik L t := by
      intro n
      induction n with
      | zero => intro _; exact ⟨0, Nat.le_refl _, fun t h => by omega, fun t _ h => by omega⟩
      | succ n ih =>
        intro hn
        obtain ⟨p, h1, h2, h3⟩ := ih (by omega)
        by_cases he : ik L n < k
        · refine ⟨n + 1, Nat.le_refl _, fun t ht => ?_, fun t a b => by omega⟩
          rcases Nat.lt_or_ge t n with h4 | h4
          · have := hu t n h4 (by omega); omega
          · obtain rfl : t = n := by omega
            exact he
        · refine ⟨p, by omega, h2, fun t a b => ?_⟩
          rcases Nat.lt_or_ge t n with h4 | h4
          · exact h3 t a h4
          · obtain rfl : t = n := by omega
            omega
    exact key L.length (Nat.le_refl _)
  rw [hp.iless]
  exact hp
/-- What is put, or dropped, may be. -/
theorem irt_put {L : List ItL} {x : ItL} (h : IRt L) (hx : x.2.length ≤ 64) (hs : ihas L x.1 ∨ L.length < 64) : IRt (iput L x) := by
  refine irt_of_up ?_ (irt_val fun y hy => ?_) (iup_put x h.up)
  · rcases hs with ⟨y, hy, e⟩ | hs
    · have h1 : (iput L x).length ≤ L.length := by
        have hp := ipos_less x.1 h.up
        obtain ⟨e1, e2⟩ := (hp.has h.up).1 ⟨y, hy, e⟩
        rw [hp.put_in h.up e1 e2]
        simp
        omega
      have := h.1
      omega
    · have := iput_len (L := L) x; omega
  · rcases iput_mem.1 hy with rfl | ⟨hy, _⟩
    · exact hx
    · exact h.val y hy
theorem irt_drop {L : List ItL} {k : Nat} (h : IRt L) : IRt (idrop L k) := by
  refine irt_of_up ?_ (irt_val fun y hy => h.val y (List.mem_filter.1 hy).1) (iup_filter _ h.up)
  have := List.length_filter_le (fun y : ItL => decide (y.1 ≠ k)) L
  have := h.1
  rw [idrop]; omega

theorem ileq_in {L : List ItL} {k : Nat} (hu : IUp L) : ∀ t, t < L.length → (t < ileq L k ↔ ik L t ≤ k) := by
  intro t ht
  have hp := ipos_less k hu
  generalize iless L k = p at hp
  rw [hp.leq hu]
  split
  · rename_i hh
    constructor
    · intro h1
      rcases Nat.lt_or_ge t p with h2 | h2
      · have := hp.2.1 t h2; omega
      · obtain rfl : t = p := by omega
        omega
    · intro h1
      rcases Nat.lt_or_ge p t with h2 | h2
      · have := hu p t h2 ht; omega
      · omega
  · rename_i hh
    constructor
    · intro h1
      have := hp.2.1 t h1; omega
    · intro h1
      rcases Nat.lt_or_ge t p with h2 | h2
      · exact h2
      · have h3 := hp.2.2 t h2 ht
        have h4 : ik L t ≠ k := fun e => hh (by
          rcases Nat.lt_or_ge p t with h5 | h5
          · have := hu p t h5 ht
            have := hp.2.2 p (Nat.le_refl _) (by omega)
            omega
          · obtain rfl : t = p := by omega
            exact ⟨ht, e⟩)
        omega
end Go.Proofs.YtjonhenllhnibaaGreatDoor
/- The contracts of cmp.Compare, slices.BinarySearchFunc and placeOf. -/
namespace Go.Proofs.YtjonhenllhnibaaGreatDoor
open Go.RowKit

/-- What cmp.Compare tells. -/
def icmp (a b : Nat) : Int := if a < b then -1 else if b < a then 1 else 0
theorem icmp_lt {a b : Nat} : icmp a b < 0 ↔ a < b := by unfold icmp; split <;> (try split) <;> omega
theorem icmp_eq {a b : Nat} : icmp a b = 0 ↔ a = b := by unfold icmp; split <;> (try split) <;> omega

end Go.Proofs.YtjonhenllhnibaaGreatDoor
/- The contracts of numbers and upTo. -/
namespace Go.Proofs.YtjonhenllhnibaaGreatDoor
open Go.RowKit

/-- The items' numbers. -/
def ikeys (L : List ItL) : List Nat := L.map (·.1)
theorem ikeys_len (L : List ItL) : (ikeys L).length = L.length := by simp [ikeys]
theorem ikeys_at (L : List ItL) (j : Nat) (h : j < L.length) : (ikeys L).getD j 0 = (L.getD j (0, [])).1 := by
  simp [ikeys, List.getD, h]
theorem infoVU : (Tryz.prog.info? 23).map (fun i => (i.zero, i.size, i.bytes)) = some (some (.int .u64 0), 1, 8) := by kernel_rfl
theorem imake_words (n : Nat) (hn : n ≤ 65536) (W : World) : (Instr.makeSlice 58 (.int .i64 (n : Int)) (.int .i64 (n : Int))).run Tryz.prog W = .ok (.slice (some ⟨W.heap.size, 0, none⟩) n n) (W.alloc (.cells (Array.replicate n (vu 0)) 23)) := by
  obtain ⟨i0, hi, hz0, hz1, hz2⟩ := info_parts infoVU
  have h := run_makeSlice (P := Tryz.prog) (w := W) 58 23 i0 (.int .u64 0) Tryz.underlying58 hi hz0 .i64 .i64 n n (by omega) (by omega) (by rw [hz1]; omega) (by rw [hz2]; omega) (by omega)
  rw [hz1] at h
  have e : madeCells (Value.int .u64 0).cells ((n : Int).toNat * 1) = (Array.replicate n (vu 0)) := by
    simp [madeCells, Value.cells]
    apply Array.ext
    · simp
    · intro i h1 h2
      simp [Nat.mod_one]
  rw [e] at h
  exact h

end Go.Proofs.YtjonhenllhnibaaGreatDoor
/- The contracts of isVal and Right. -/
namespace Go.Proofs.YtjonhenllhnibaaGreatDoor
open Go.RowKit

theorem bd_i {w w1 : World} (h : Below w.heap.size w w1) (n : Nat) : Below w.heap.size w (w1.drewN n) := below_drewN h n
theorem isize (s : List UInt8) : (⟨s.toArray⟩ : ByteArray).size = s.length := by simp [ByteArray.size]

set_option maxRecDepth 100000 in
set_option maxHeartbeats 1000000 in
theorem isval_any (l : List UInt8) (w : World) :
    Calls Tryz.prog 53 #[sv l] w fun e w' => e = .returned (.bool (decide (l.length ≤ 64))) ∧ w = w' := by
  have hz := isize l
  obtain ⟨n, hn⟩ : ∃ n, l.length = n := ⟨_, rfl⟩
  rw [hn] at hz ⊢
  clear hn
  have hd : decide ((n : Int) ≤ 64) = decide (n ≤ 64) := by by_cases h : n ≤ 64 <;> simp [h] <;> omega
  go_enter Tryz.func53, Tryz.ntmps53
  go_wp2
  go_ret
  exact ⟨rfl, rfl⟩

set_option maxRecDepth 100000 in
set_option maxHeartbeats 4000000 in
theorem iright_any (A : Option Addr) (n c : Nat) (L : List ItL) (w : World) (hA : IR w A L) (hl : L.length = n) (hn : n ≤ 65536) :
    Calls Tryz.prog 25 #[.slice A n c] w fun e w' => e = .returned (.bool (decide (IRt L))) ∧ Below w.heap.size w w' := by
  by_cases h64 : n ≤ 64
  · have HA := Lib.hid hA
    have HV : Hid (∀ j, j < n → ¬ (L.getD j (0, [])).2.length ≤ 64 → decide (IRt L) = false) := Lib.hid fun j hj h => decide_eq_false fun hr => h (hr.2.1 j (by omega))
    have HK : Hid (∀ j, j + 1 < n → ¬ (L.getD j (0, [])).1 < (L.getD (j + 1) (0, [])).1 → decide (IRt L) = false) := Lib.hid fun j hj h => decide_eq_false fun hr => h (by have := hr.2.2 (j + 1) (by omega) (by omega); rwa [Nat.add_sub_cancel] at this)
    have HY : Hid ((∀ j, j < n → (L.getD j (0, [])).2.length ≤ 64) → (∀ j, j < n → 0 < j → ik L (j - 1) < ik L j) → decide (IRt L) = true) := Lib.hid fun a b => decide_eq_true ⟨by omega, fun j hj => a j (by omega), fun j hj => b j (by omega)⟩
    have HL := Lib.hid hl
    generalize decide (IRt L) = R at HV HK HY ⊢
    clear hA hl
    go_enter Tryz.func25, Tryz.ntmps25
    go_wp2_with fail
    go_loopw [10] (fun iv wr => ∃ k : Nat, k ≤ n ∧ iv = .int .i64 k ∧ Hid (∀ j, j < k → (L.getD j (0, [])).2.length ≤ 64) ∧ Hid (∀ j, j < k → 0 < j → ik L (j - 1) < ik L j) ∧ Below w.heap.size w wr) (fun i _ => n - (intOf i).toNat)
    case atStart => exact ⟨0, Nat.zero_le _, rfl, Lib.hid (fun j hj => by omega), Lib.hid (fun j hj => by omega), Below.refl _ _⟩
    case round =>
      obtain ⟨k, hk, rfl, HJ, HJ2, hb⟩ := hrel
      by_cases hlt : k < n
      · obtain ⟨g, off, rfl, c0, c1⟩ := (HA.out.later hb) k (by rw [HL.out]; exact hlt)
        have HV1 := Lib.hid (HV.out k hlt)
        have i0 : (0 : Int) ≤ (k : Int) := by omega
        have i1 : (k : Int) < (n : Int) := by omega
        have HJ1 : Hid ((L.getD k (0, [])).2.length ≤ 64 → ∀ j, j < k + 1 → (L.getD j (0, [])).2.length ≤ 64) := Lib.hid fun h j hj => by
          by_cases e : j = k
          · rw [e]; exact h
          · exact HJ.out j (by omega)
        rcases Nat.eq_zero_or_pos k with rfl | hk0
        · have HJ3 : Hid (∀ j, j < 0 + 1 → 0 < j → ik L (j - 1) < ik L j) := Lib.hid fun j hj h0 => by omega
          generalize L.getD 0 (0, []) = x at *
          obtain ⟨xk, xs⟩ := x
          simp only [Nat.zero_mul, Nat.add_zero] at c0 c1
          have HF := Lib.hid (fun W => isval_any xs W)
          have d0 : decide ((0 : Int) < 0) = false := by simp
          by_cases hx : xs.length ≤ 64
          · rw [decide_eq_true hx] at HF
            go_wp2_with fail
            go_quiet ((go_at_call 53; exact Calls.quiet_of_same ((HF.out _).mono fun _ _ ⟨h, k⟩ => ⟨h, k.symm⟩)))
            go_wp2
            exact ⟨⟨1, by omega, by go_num, Lib.hid (HJ1.out hx), HJ3, bd_i (ba hb _) _⟩, by simp [intOf]; omega⟩
          · rw [decide_eq_false hx] at HF
            have HR := Lib.hid (HV1.out hx)
            go_wp2_with fail
            go_quiet ((go_at_call 53; exact Calls.quiet_of_same ((HF.out _).mono fun _ _ ⟨h, k⟩ => ⟨h, k.symm⟩)))
            go_wp2
            go_ret
            rw [HR.out]
            exact ⟨rfl, bd_i (ba hb _) _⟩
        · obtain ⟨m, rfl⟩ : ∃ m, k = m + 1 := ⟨k - 1, by omega⟩
          obtain ⟨g', off', e, d0, d1⟩ := (HA.out.later hb) m (by rw [HL.out]; omega)
          obtain ⟨rfl, rfl⟩ : g = g' ∧ off = off' := by injection e with e; injection e with e1 e2; exact ⟨e1, e2⟩
          have HK1 := Lib.hid (HK.out m (by omega))
          have HJ3 : Hid ((L.getD m (0, [])).1 < (L.getD (m + 1) (0, [])).1 → ∀ j, j < m + 1 + 1 → 0 < j → ik L (j - 1) < ik L j) := Lib.hid fun h j hj h0 => by
            by_cases e : j = m + 1
            · rw [e]; exact h
            · exact HJ2.out j (by omega) h0
          generalize L.getD (m + 1) (0, []) = x at *
          generalize L.getD m (0, []) = y at *
          obtain ⟨xk, xs⟩ := x
          obtain ⟨yk, ys⟩ := y
          simp only at c0 c1 d0 d1 HK1 HJ3
          have HF := Lib.hid (fun W => isval_any xs W)
          have d2 : (wr.alloc (.cells #[.int .u64 (xk : Int), sv xs] 42)).cell? ⟨g, off + m * 2, none⟩ = some (vu yk) := cell_later (ba (Below.refl _ _) _) d0
          have e0 : IntKind.i64.wrap (((m + 1 : Nat) : Int) - 1) = (m : Int) := by rw [IntKind.wrap_i64]; omega
          have e1 : (0 : Int) < ((m + 1 : Nat) : Int) := by omega
          have e5 : IntKind.i64.wrap ((m : Int) + 1 - 1) = (m : Int) := by rw [IntKind.wrap_i64]; omega
          have e6 : (0 : Int) < (m : Int) + 1 := by omega
          have e7 : IntKind.i64.wrap (m : Int) = (m : Int) := by rw [IntKind.wrap_i64]; omega
          have e2 : (0 : Int) ≤ (m : Int) := by omega
          have e3 : (m : Int) < (n : Int) := by omega
          by_cases hx : xs.length ≤ 64
          · rw [decide_eq_true hx] at HF
            by_cases hy : yk < xk
            · have e4 : decide ((xk : Int) ≤ (yk : Int)) = false := by simp; omega
              go_wp2_with fail
              go_quiet ((go_at_call 53; exact Calls.quiet_of_same ((HF.out _).mono fun _ _ ⟨h, k⟩ => ⟨h, k.symm⟩)))
              go_wp2
              exact ⟨⟨m + 1 + 1, by omega, by go_num, Lib.hid (HJ1.out hx), Lib.hid (HJ3.out hy), bd_i (ba hb _) _⟩, by simp [intOf]; omega⟩
            · have HR := Lib.hid (HK1.out hy)
              have e4 : (xk : Int) ≤ (yk : Int) := by omega
              go_wp2_with fail
              go_quiet ((go_at_call 53; exact Calls.quiet_of_same ((HF.out _).mono fun _ _ ⟨h, k⟩ => ⟨h, k.symm⟩)))
              go_wp2
              go_ret
              rw [HR.out]
              exact ⟨rfl, bd_i (ba hb _) _⟩
          · rw [decide_eq_false hx] at HF
            have HR := Lib.hid (HV1.out hx)
            go_wp2_with fail
            go_quiet ((go_at_call 53; exact Calls.quiet_of_same ((HF.out _).mono fun _ _ ⟨h, k⟩ => ⟨h, k.symm⟩)))
            go_wp2
            go_ret
            rw [HR.out]
            exact ⟨rfl, bd_i (ba hb _) _⟩
      · obtain rfl : k = n := by omega
        have HR := Lib.hid (HY.out HJ.out HJ2.out)
        go_wp2
        go_ret
        rw [HR.out]
        exact ⟨rfl, hb⟩
  · have h1 : ¬ IRt L := fun h => by have := h.1; omega
    rw [decide_eq_false h1]
    clear h1 hA hl
    go_enter Tryz.func25, Tryz.ntmps25
    go_wp2
    go_ret
    exact ⟨rfl, Below.refl _ _⟩
end Go.Proofs.YtjonhenllhnibaaGreatDoor
/- The contracts of the reference's Right, At and Floor. -/
namespace Go.Proofs.YtjonhenllhnibaaGreatDoor
open Go.RowKit

/-- The place of a number's item; -1: there is none. -/
def iatZ (L : List ItL) (k : Nat) : Int := if ihas L k then (iless L k : Int) else -1
theorem iatZ_yes {L : List ItL} {k j : Nat} (hj : j < L.length) (he : ik L j = k) (hu : IUp L) : iatZ L k = (j : Int) := by
  have hp : IPos L k j := ⟨by omega, fun t ht => by have := hu t j ht hj; omega, fun t a b => by
    rcases Nat.lt_or_ge j t with h | h
    · have := hu j t h b; omega
    · obtain rfl : t = j := by omega
      omega⟩
  rw [iatZ, if_pos ((hp.has hu).2 ⟨hj, he⟩), hp.iless]
theorem iatZ_no {L : List ItL} {k : Nat} (hn : ∀ i, i < L.length → ik L i ≠ k) : iatZ L k = -1 := by
  rw [iatZ, if_neg]
  rintro ⟨x, hx, e⟩
  obtain ⟨j, hj, rfl⟩ := iat_of_mem hx
  exact hn j hj e

set_option maxRecDepth 100000 in
set_option maxHeartbeats 4000000 in
theorem irat_any (A : Option Addr) (n c k : Nat) (L : List ItL) (w : World) (hA : IR w A L) (hl : L.length = n) (hu : IUp L) (hn : n ≤ 65536) :
    Calls Tryz.prog 13 #[.slice A n c, vu k] w fun e w' => e = .returned (.int .i64 (iatZ L k)) ∧ Below w.heap.size w w' := by
  have HA := Lib.hid hA
  have HY : Hid (∀ j, j < n → (L.getD j (0, [])).1 = k → iatZ L k = (j : Int)) := Lib.hid fun j hj he => iatZ_yes (by omega) he hu
  have HN : Hid ((∀ i, i < n → ik L i ≠ k) → iatZ L k = -1) := Lib.hid fun h => iatZ_no fun i hi => h i (by omega)
  have HL := Lib.hid hl
  generalize iatZ L k = R at HY HN ⊢
  clear hA hl hu
  go_enter Tryz.func13, Tryz.ntmps13
  go_wp2_with fail
  go_loopw [9] (fun iv wr => ∃ j : Nat, j ≤ n ∧ iv = .int .i64 (j : Int) ∧ Hid (∀ i, i < j → ik L i ≠ k) ∧ Below w.heap.size w wr) (fun i _ => n - (intOf i).toNat)
  case atStart => exact ⟨0, Nat.zero_le _, rfl, Lib.hid (fun i hi => by omega), Below.refl _ _⟩
  case round =>
    obtain ⟨j, hj, rfl, HJ, hb⟩ := hrel
    by_cases hlt : j < n
    · obtain ⟨g, off, rfl, c0, c1⟩ := (HA.out.later hb) j (by rw [HL.out]; exact hlt)
      have HY1 := Lib.hid (HY.out j hlt)
      have HJ1 : Hid ((L.getD j (0, [])).1 ≠ k → ∀ i, i < j + 1 → ik L i ≠ k) := Lib.hid fun h i hi => by
        by_cases e : i = j
        · rw [e]; exact h
        · exact HJ.out i (by omega)
      generalize L.getD j (0, []) = x at *
      obtain ⟨xk, xs⟩ := x
      simp only at c0 c1 HY1 HJ1
      have i0 : (0 : Int) ≤ (j : Int) := by omega
      have i1 : (j : Int) < (n : Int) := by omega
      by_cases hx : xk = k
      · have HR := Lib.hid (HY1.out hx)
        subst hx
        clear HJ1 HY1
        go_wp2
        go_ret
        rw [HR.out]
        exact ⟨rfl, ba hb _⟩
      · have HJ2 := Lib.hid (HJ1.out hx)
        have hx2 : ((xk : Int) == (k : Int)) = false := by simp; omega
        clear HJ1 HY1
        go_wp2
        exact ⟨⟨j + 1, by omega, by go_num, HJ2, ba hb _⟩, by simp [intOf]; omega⟩
    · obtain rfl : j = n := by omega
      have HR := Lib.hid (HN.out HJ.out)
      go_wp2
      go_ret
      rw [HR.out]
      exact ⟨rfl, hb⟩

end Go.Proofs.YtjonhenllhnibaaGreatDoor
/- The contracts of slices.Equal of two lists of items, of Like, and of the reference's Same. -/
namespace Go.Proofs.YtjonhenllhnibaaGreatDoor
open Go.RowKit

theorem igetD_same {α : Type} (d : α) {L M : List α} {n : Nat} (hl : L.length = n) (hm : M.length = n) (h : ∀ j, j < n → L.getD j d = M.getD j d) : L = M := by
  apply List.ext_getElem
  · rw [hl, hm]
  · intro i h1 h2
    have := h i (by omega)
    simpa [List.getD, h1, h2] using this
end Go.Proofs.YtjonhenllhnibaaGreatDoor
