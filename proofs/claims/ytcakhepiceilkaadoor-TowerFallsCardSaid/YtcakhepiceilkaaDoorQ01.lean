/- Texts of this seat, one behind the other: Mem, Str, VRow, VLaw, VTz, TSlot, CMath, CPass. -/
import Derived.Test.YtcakhepiceilkaaDoorRows
import Derived.WalkKit
import Derived.WalkSpells
import Derived.WalkLawsBesides
import Derived.BigQuiet
import Derived.Deep.QuietTactic
import Derived.RegionTactic
import Derived.ChangeAlike
import Derived.Lib.Hide
import Derived.Laws.IdiomStrings
import Derived.Laws.Rows
import Derived.Deep.Draws
import Derived.Deep.RegionHeld3
import Derived.Deep.DrawnRows
import Derived.Laws.MakeOwn
import Derived.RangeFuncBox
import Derived.Laws.OwnMore
import Derived.Deep.AppendLies
import Derived.RangeFuncNested
import Derived.RangeFuncBound
import Derived.RangeFuncCalls
import Derived.RangeFuncLeaves
import Derived.Shelf.Abstract
import Derived.Shelf.RegionOpen
import Derived.OwnWalkIn
import Derived.TacticsInMore
import Derived.LoopNIn
import Derived.LoopIn
import Derived.Lib.TrailingZeros
import Derived.Laws.Bits64b
import Derived.Below
import GoSem.Op.String
import Derived.Outline
/- Words for memory: cells, blocks that are known whole, and what stays as it was. Nothing of any function. -/
namespace Go.Proofs.YtcakhepiceilkaaDoor
open Go.RowKit

theorem size_mk (s : List UInt8) : (⟨s.toArray⟩ : ByteArray).size = s.length := by simp [ByteArray.size]
theorem get_mk (s : List UInt8) (k : Nat) (h' : k < (⟨s.toArray⟩ : ByteArray).size) : (⟨s.toArray⟩ : ByteArray)[k]'h' = s[k]'(by rw [size_mk] at h'; exact h') := by
  simp [ByteArray.getElem_eq_getElem_data]
theorem bcell {W w1 : World} (hb : Below W.heap.size W w1) : (∀ b o, b < W.heap.size → w1.cell? ⟨b, o, none⟩ = W.cell? ⟨b, o, none⟩) ∧ (∀ b o, b < W.heap.size → w1.frozen? ⟨b, o, none⟩ = W.frozen? ⟨b, o, none⟩) :=
  ⟨fun b o h => hb.cell (p := ⟨b, o, none⟩) h, fun b o h => hb.frozen (p := ⟨b, o, none⟩) h⟩

theorem ba {w w1 : World} (h : Below w.heap.size w w1) (o : Obj) : Below w.heap.size w (w1.alloc o) := h.alloc h.size o
theorem bt {w w1 w2 : World} (h : Below w.heap.size w w1) (h2 : Below w1.heap.size w1 w2) : Below w.heap.size w w2 := h.trans (h2.mono h.size)
theorem bs {w w1 : World} (h : Below w.heap.size w w1) {b o : Nat} (hp : w.heap.size ≤ b) (v : Value) : Below w.heap.size w (w1.setCell ⟨b, o, none⟩ v) := h.setCell (p := ⟨b, o, none⟩) hp v

/-- A cell that can be read and written. -/
def At (W : World) (b o : Nat) (v : Value) : Prop := W.cell? ⟨b, o, none⟩ = some v ∧ W.frozen? ⟨b, o, none⟩ = false
theorem At.lt {W : World} {b o : Nat} {v : Value} (h : At W b o v) : b < W.heap.size := World.block_lt_of_cell? _ _ h.1
theorem At.later {W w1 : World} {b o : Nat} {v : Value} (h : At W b o v) (hb : Below W.heap.size W w1) : At w1 b o v :=
  ⟨cell_later hb h.1, (hb.frozen (p := ⟨b, o, none⟩) h.lt).trans h.2⟩
theorem At.alloc {W : World} {b o : Nat} {v : Value} (h : At W b o v) (ob : Obj) : At (W.alloc ob) b o v := h.later ((Below.refl _ _).alloc (Nat.le_refl _) ob)
theorem At.drew {W : World} {b o : Nat} {v : Value} (h : At W b o v) : At W.drew b o v := h
theorem At.drewN {W : World} {b o : Nat} {v : Value} (h : At W b o v) (n : Nat) : At (W.drewN n) b o v := h
theorem At.new (W : World) (x : Array Value) (t : TypeId) {o : Nat} {v : Value} (h : x[o]? = some v) : At (W.alloc (.cells x t)) W.heap.size o v := by
  constructor
  · simp [h]
  · go_simp

/-- A block that is known whole. -/
def Blk (w : World) (g : Nat) (t : TypeId) (cs : Array Value) : Prop := w.heap[g]? = some (.cells cs t (0, 0))
section
variable {w w' : World} {g : Nat} {t : TypeId} {cs : Array Value}
theorem Blk.lt (h : Blk w g t cs) : g < w.heap.size := by
  rcases Nat.lt_or_ge g w.heap.size with hlt | hge
  · exact hlt
  · unfold Blk at h; rw [Array.getElem?_eq_none hge] at h; cases h
theorem Blk.cell (h : Blk w g t cs) (i : Nat) : w.cell? ⟨g, i, none⟩ = cs[i]? := cell_of_row w g i cs t (0, 0) h
theorem Blk.frozen (h : Blk w g t cs) (i : Nat) : w.frozen? ⟨g, i, none⟩ = false := by
  unfold Blk at h
  simp [World.frozen?, h]
theorem Blk.at_ (h : Blk w g t cs) {i : Nat} {v : Value} (hv : cs[i]? = some v) : At w g i v := ⟨(h.cell i).trans hv, h.frozen i⟩
theorem Blk.new (w : World) (t : TypeId) (cs : Array Value) : Blk (w.alloc (.cells cs t)) w.heap.size t cs := heap_alloc_new w _
theorem Blk.newAt {w : World} {g : Nat} (h : w.heap.size = g) (t : TypeId) (cs : Array Value) : Blk (w.alloc (.cells cs t)) g t cs := by subst h; exact Blk.new w t cs
theorem Blk.drew (h : Blk w g t cs) : Blk w.drew g t cs := h
theorem Blk.drewN (h : Blk w g t cs) (n : Nat) : Blk (w.drewN n) g t cs := h
theorem Blk.alloc (h : Blk w g t cs) (o : Obj) : Blk (w.alloc o) g t cs := (Below.heap_alloc w o g h.lt).trans h
theorem Blk.set_ (h : Blk w g t cs) (i : Nat) (u : Value) : Blk (w.setCell ⟨g, i, none⟩ u) g t (cs.setIfInBounds i u) := by
  unfold Blk at h ⊢
  simp [World.setCell, Array.getElem?_modify, h]
theorem Blk.far (h : Blk w g t cs) {p : Addr} (hp : g ≠ p.block) (u : Value) : Blk (w.setCell p u) g t cs := (Below.heap_setCell w p u g hp).trans h
theorem Blk.below (h : Blk w g t cs) (hb : Below w.heap.size w w') : Blk w' g t cs := (hb.block g h.lt).trans h
theorem Blk.grown {row : Option Nat} (h : Blk w g t cs) (hb : w.grownBy w' row) (hg : some g ≠ row) : Blk w' g t cs := (hb.block g h.lt hg).trans h
end

/-- But for the blocks p and g what was there is as it was. -/
structure Off (p g : Nat) (w w' : World) : Prop where
  os : w'.os = w.os
  tape : w'.tape = w.tape
  output : w'.output = w.output
  size : w.heap.size ≤ w'.heap.size
  block : ∀ k, k < w.heap.size → k ≠ p → k ≠ g → w'.heap[k]? = w.heap[k]?
section
variable {p g : Nat} {a b w w' : World}
theorem Off.refl (p g : Nat) (w : World) : Off p g w w := ⟨rfl, rfl, rfl, Nat.le_refl _, fun _ _ _ _ => rfl⟩
theorem Off.trans (h : Off p g a b) (k : Off p g b w) : Off p g a w :=
  ⟨k.os.trans h.os, k.tape.trans h.tape, k.output.trans h.output, Nat.le_trans h.size k.size, fun i hi hp hg => (k.block i (Nat.lt_of_lt_of_le hi h.size) hp hg).trans (h.block i hi hp hg)⟩
theorem Off.drew (h : Off p g a w) : Off p g a w.drew := ⟨h.os, h.tape, h.output, h.size, h.block⟩
theorem Off.drewN (h : Off p g a w) (n : Nat) : Off p g a (w.drewN n) := ⟨h.os, h.tape, h.output, h.size, h.block⟩
theorem Off.alloc (h : Off p g a w) (o : Obj) : Off p g a (w.alloc o) :=
  h.trans ⟨rfl, rfl, rfl, by simp, fun k hk _ _ => Below.heap_alloc w o k hk⟩
theorem Off.setCell (h : Off p g a w) {q : Addr} (hq : q.block = p ∨ q.block = g) (v : Value) : Off p g a (w.setCell q v) :=
  h.trans ⟨rfl, rfl, rfl, by simp [World.setCell], fun k _ hp hg => Below.heap_setCell w q v k (by
    rintro rfl
    rcases hq with hq | hq
    · exact hp hq
    · exact hg hq)⟩
theorem Off.below_mid (h : Off p g a w) (hb : Below w.heap.size w w') : Off p g a w' :=
  h.trans ⟨hb.os, hb.tape, hb.output, hb.size, fun k hk _ _ => hb.block k hk⟩
theorem Off.below {B : Nat} (h : Off p g a w) (hp : B ≤ p) (hg : B ≤ g) (hB : B ≤ a.heap.size) : Below B a w :=
  ⟨h.os, h.tape, h.output, h.size, fun k hk => h.block k (by omega) (by omega) (by omega)⟩
theorem Off.blk (h : Off p g a w) {k : Nat} {t : TypeId} {cs : Array Value} (hk : Blk a k t cs) (hp : k ≠ p) (hg : k ≠ g) : Blk w k t cs := (h.block k hk.lt hp hg).trans hk
theorem Off.at_ (h : Off p g a w) {k o : Nat} {v : Value} (hk : At a k o v) (hp : k ≠ p) (hg : k ≠ g) : At w k o v :=
  ⟨(World.cell?_of_block (a := ⟨k, o, none⟩) (h.block k hk.lt hp hg)).trans hk.1, (World.frozen?_of_block (a := ⟨k, o, none⟩) (h.block k hk.lt hp hg)).trans hk.2⟩
end
end Go.Proofs.YtcakhepiceilkaaDoor
/- Words for slices of strings: what can be read of one, and one that the call made. Nothing of any function. -/
namespace Go.Proofs.YtcakhepiceilkaaDoor
open Go.RowKit

/-- A string's cell. -/
abbrev sv (x : List UInt8) : Value := .string ⟨x.toArray⟩
/-- A row of strings that can be read: where it lies, if it has any. -/
def SR (w : World) (A : Option Addr) (L : List (List UInt8)) : Prop :=
  ∀ j, j < L.length → ∃ g off, A = some ⟨g, off, none⟩ ∧ w.cell? ⟨g, off + j, none⟩ = some (sv (L.getD j []))
theorem SR.later {w w' : World} {A : Option Addr} {L : List (List UInt8)} (h : SR w A L) (hb : Below w.heap.size w w') : SR w' A L := fun j hj => by
  obtain ⟨g, off, e, h0⟩ := h j hj
  exact ⟨g, off, e, cell_later hb h0⟩
theorem SR.drew {w : World} {A : Option Addr} {L : List (List UInt8)} (h : SR w A L) : SR w.drew A L := h
theorem SR.drewN {w : World} {A : Option Addr} {L : List (List UInt8)} (h : SR w A L) (n : Nat) : SR (w.drewN n) A L := h
theorem SR.nil (w : World) (A : Option Addr) : SR w A [] := fun j hj => absurd hj (by simp)
theorem getD_take {α : Type} (L : List α) (m j : Nat) (d : α) (h : j < m) : (L.take m).getD j d = L.getD j d := by
  simp only [List.getD, List.getElem?_take, h, if_true]
theorem SR.take {w : World} {A : Option Addr} {L : List (List UInt8)} (h : SR w A L) (m : Nat) : SR w A (L.take m) := fun j hj => by
  rw [List.length_take] at hj
  obtain ⟨g, off, e, h0⟩ := h j (by omega)
  exact ⟨g, off, e, by rw [getD_take _ _ _ _ (by omega)]; exact h0⟩
theorem getD_drop {α : Type} (L : List α) (m j : Nat) (d : α) : (L.drop m).getD j d = L.getD (m + j) d := by simp [List.getD]
/-- The row from a place on. -/
theorem SR.drop {w : World} {g off : Nat} {L : List (List UInt8)} (h : SR w (some ⟨g, off, none⟩) L) (m : Nat) : SR w (some ⟨g, off + m, none⟩) (L.drop m) := fun j hj => by
  rw [List.length_drop] at hj
  obtain ⟨g', off', e, h0⟩ := h (m + j) (by omega)
  obtain ⟨rfl, rfl⟩ : g = g' ∧ off = off' := by injection e with e; injection e with e1 e2; exact ⟨e1, e2⟩
  exact ⟨g, off + m, rfl, by rw [getD_drop, Nat.add_assoc]; exact h0⟩
theorem svs_at (L : List (List UInt8)) (j : Nat) (h : j < L.length) : (L.map sv)[j]? = some (sv (L.getD j [])) := by
  simp [List.getD, h]
theorem own_SR {W : World} {base g c n : Nat} {L : List (List UInt8)} (h : W.ownsRow base 9 1 (.slice (some ⟨g, 0, none⟩) n c) n (L.map sv)) (hl : L.length = n) : SR W (some ⟨g, 0, none⟩) L := fun j hj =>
  ⟨g, 0, rfl, by rw [Nat.zero_add, h.cellAt j (by omega), svs_at L j hj]⟩
theorem own_form {W : World} {base : Nat} {e : TypeId} {size : Nat} {v : Value} {n : Nat} {xs : List Value} (h : W.ownsRow base e size v n xs) : ∃ A c, v = .slice A n c ∧ ((A = none ∧ n = 0 ∧ c = 0) ∨ ∃ g, A = some ⟨g, 0, none⟩ ∧ n ≤ c ∧ c ≤ maxLen ∧ base ≤ g) := by
  rcases h.2 with ⟨rfl, rfl⟩ | ⟨g, cap, cur, rfl, hb, _, hn, hc, _⟩
  · exact ⟨none, 0, rfl, .inl ⟨rfl, rfl, rfl⟩⟩
  · exact ⟨_, cap, rfl, .inr ⟨g, rfl, hn, hc, hb⟩⟩
theorem own_SR' {W : World} {base : Nat} {A : Option Addr} {n c : Nat} {L : List (List UInt8)} (h : W.ownsRow base 9 1 (.slice A n c) n (L.map sv)) (hl : L.length = n) : SR W A L := by
  obtain ⟨A', c', e, hh⟩ := own_form h
  injection e with e1 e2 e3
  subst e1
  subst e3
  rcases hh with ⟨rfl, rfl, rfl⟩ | ⟨g, rfl, _⟩
  · obtain rfl : L = [] := List.eq_nil_of_length_eq_zero hl
    exact SR.nil _ _
  · exact own_SR h hl
theorem own_later {W W' : World} {base : Nat} {e : TypeId} {size : Nat} {v : Value} {n : Nat} {xs : List Value} (h : W.ownsRow base e size v n xs) (hb : Below W.heap.size W W') : W'.ownsRow base e size v n xs := by
  obtain ⟨h1, h2⟩ := h
  refine ⟨h1, ?_⟩
  rcases h2 with h2 | ⟨g, cap, cur, hv, hg, hh, r⟩
  · exact Or.inl h2
  · exact Or.inr ⟨g, cap, cur, hv, hg, (hb.block g (Array.getElem?_eq_some_iff.1 hh).1).trans hh, r⟩
theorem infoS : (Tryd.prog.info? 9).map (fun i => (i.zero, i.size, i.bytes)) = some (some (.string ⟨#[]⟩), 1, 16) := by kernel_rfl
theorem make_strs (n : Nat) (hn : n ≤ 65536) : ∃ Z : Array Value, Z.size = n ∧ ∀ W : World, (Instr.makeSlice 81 (.int .i64 0) (.int .i64 (n : Int))).run Tryd.prog W = .ok (.slice (some ⟨W.heap.size, 0, none⟩) 0 n) (W.alloc (.cells Z 9)) := by
  obtain ⟨i0, hi, hz0, hz1, hz2⟩ := info_parts infoS
  refine ⟨madeCells (Value.string ⟨#[]⟩).cells (n * 1), by simp [madeCells, Value.cells], fun W => ?_⟩
  have h := run_makeSlice (P := Tryd.prog) W 81 9 i0 (.string ⟨#[]⟩) Tryd.underlying81 hi hz0 .i64 .i64 0 n (by omega) (by omega) (by rw [hz1]; omega) (by rw [hz2]; omega) (by omega)
  rw [hz1] at h
  exact h
end Go.Proofs.YtcakhepiceilkaaDoor
/- Rows of numbers in memory (of type int, or uint64), and the words for a row that the call made. Nothing of any function. -/
namespace Go.Proofs.YtcakhepiceilkaaDoor
open Go.RowKit

/-- A number's cell: an int's, and a uint64's. -/
abbrev vi (x : Nat) : Value := .int .i64 (x : Int)
abbrev vu (x : Nat) : Value := .int .u64 (x : Int)
/-- A row that can be read: where it lies, if it has any. -/
def VR (q : Nat → Value) (w : World) (A : Option Addr) (L : List Nat) : Prop :=
  ∀ j, j < L.length → ∃ g off, A = some ⟨g, off, none⟩ ∧ w.cell? ⟨g, off + j, none⟩ = some (q (L.getD j 0))
section
variable {q : Nat → Value} {w w' : World} {A : Option Addr} {L : List Nat}
theorem VR.later (h : VR q w A L) (hb : Below w.heap.size w w') : VR q w' A L := fun j hj => by
  obtain ⟨g, off, e, h0⟩ := h j hj
  exact ⟨g, off, e, cell_later hb h0⟩
theorem VR.nil (q : Nat → Value) (w : World) (A : Option Addr) : VR q w A [] := fun j hj => absurd hj (by simp)
theorem vget_take (L : List Nat) (m j : Nat) (h : j < m) : (L.take m).getD j 0 = L.getD j 0 := by
  simp [List.getD, h]
theorem VR.take (h : VR q w A L) (m : Nat) : VR q w A (L.take m) := fun j hj => by
  rw [List.length_take] at hj
  obtain ⟨g, off, e, h0⟩ := h j (by omega)
  exact ⟨g, off, e, by rw [vget_take _ _ _ (by omega)]; exact h0⟩
theorem vqs_at (q : Nat → Value) (L : List Nat) (j : Nat) (h : j < L.length) : (L.map q)[j]? = some (q (L.getD j 0)) := by
  simp [List.getD, h]
theorem own_VR {W : World} {base : Nat} {e : TypeId} {n c : Nat} (h : W.ownsRow base e 1 (.slice A n c) n (L.map q)) (hl : L.length = n) : VR q W A L := by
  obtain ⟨A', c', e, hh⟩ := own_form h
  injection e with e1 e2 e3
  subst e1
  subst e3
  rcases hh with ⟨rfl, rfl, rfl⟩ | ⟨g, rfl, _⟩
  · obtain rfl : L = [] := List.eq_nil_of_length_eq_zero hl
    exact VR.nil _ _ _
  · intro j hj
    exact ⟨g, 0, rfl, by rw [Nat.zero_add, h.cellAt j (by omega), vqs_at q L j hj]⟩
theorem blk_VR {W : World} {g : Nat} {t : TypeId} (h : Blk W g t (L.map q).toArray) : VR q W (some ⟨g, 0, none⟩) L := fun j hj =>
  ⟨g, 0, rfl, by rw [Nat.zero_add, h.cell j, List.getElem?_toArray, vqs_at q L j hj]⟩
end
theorem vget_ext {L M : List Nat} {n : Nat} (hl : L.length = n) (hm : M.length = n) (h : ∀ j, j < n → L.getD j 0 = M.getD j 0) : L = M := by
  apply List.ext_getElem
  · rw [hl, hm]
  · intro i h1 h2
    have := h i (by omega)
    simpa [List.getD, h1, h2] using this
theorem infoVI : (Tryd.prog.info? 3).map (fun i => (i.zero, i.size, i.bytes)) = some (some (.int .i64 0), 1, 8) := by kernel_rfl

theorem vmake_ints (n : Nat) (hn : n ≤ 65536) (W : World) : (Instr.makeSlice 27 (.int .i64 (n : Int)) (.int .i64 (n : Int))).run Tryd.prog W = .ok (.slice (some ⟨W.heap.size, 0, none⟩) n n) (W.alloc (.cells (Array.replicate n (vi 0)) 3)) := by
  obtain ⟨i0, hi, hz0, hz1, hz2⟩ := info_parts infoVI
  have h := run_makeSlice (P := Tryd.prog) (w := W) 27 3 i0 (.int .i64 0) Tryd.underlying27 hi hz0 .i64 .i64 n n (by omega) (by omega) (by rw [hz1]; omega) (by rw [hz2]; omega) (by omega)
  rw [hz1] at h
  have e : madeCells (Value.int .i64 0).cells ((n : Int).toNat * 1) = (Array.replicate n (vi 0)) := by
    simp [madeCells, Value.cells]
    apply Array.ext
    · simp
    · intro i h1 h2
      simp [Nat.mod_one]
  rw [e] at h
  exact h
/-- What is filled so far: the first ones are as they are to be, the others 0. -/
def vfill (T : List Nat) (j : Nat) : List Nat := (List.range T.length).map fun i => if i < j then T.getD i 0 else 0
theorem vfill_zero (T : List Nat) : vfill T 0 = List.replicate T.length 0 := by
  apply List.ext_getElem
  · simp [vfill]
  · intro i h1 h2
    simp [vfill]
theorem vfill_all (T : List Nat) : vfill T T.length = T := by
  apply List.ext_getElem
  · simp [vfill]
  · intro i h1 h2
    have h3 : i < T.length := by simpa [vfill] using h1
    simp [vfill, h3, List.getD]
theorem vfill_set (T : List Nat) (j x : Nat) (hx : T.getD j 0 = x) : (vfill T j).set j x = vfill T (j + 1) := by
  subst hx
  apply List.ext_getElem
  · simp [vfill]
  · intro i h1 h2
    rw [List.getElem_set]
    simp only [vfill, List.getElem_map, List.getElem_range]
    by_cases hij : j = i
    · subst hij
      rw [if_pos rfl, if_pos (by omega)]
    · rw [if_neg hij]
      by_cases h1 : i < j
      · rw [if_pos h1, if_pos (by omega)]
      · rw [if_neg h1, if_neg (by omega)]
theorem vblk_fill {W : World} {g : Nat} {t : TypeId} {T : List Nat} {j x : Nat} (q : Nat → Value) (h : Blk W g t ((vfill T j).map q).toArray) (hx : T.getD j 0 = x) : Blk (W.setCell ⟨g, j, none⟩ (q x)) g t ((vfill T (j + 1)).map q).toArray := by
  have h2 := h.set_ j (q x)
  have e : ((vfill T j).map q).toArray.setIfInBounds j (q x) = ((vfill T (j + 1)).map q).toArray := by
    apply Array.toList_inj.1
    rw [Array.toList_setIfInBounds, ← vfill_set T j x hx, List.map_set]
  rwa [e] at h2
end Go.Proofs.YtcakhepiceilkaaDoor
/- A loop over a function that hands values on and only makes memory: what the loop owes, what the function owes. The body may turn whatever lies from a line on. Nothing of any function. -/
namespace Go.Proofs.YtcakhepiceilkaaDoor
open Go.RowKit Go.Shelf

/-- A turned block that is none of the body's: from B on, and no cells. -/
def RowV (B : Nat) (W : World) (row : Option Nat) : Prop :=
  ∀ r, row = some r → B ≤ r ∧ ∃ o, W.heap[r]? = some o ∧ o.isCells = false
def KeptV {β : Type} (B : Nat) (J : β → World → Prop) : Prop := ∀ s W W' row, J s W → W.grownBy W' row → RowV B W row → J s W'
/-- It abides what is made new. -/
def AbV {β : Type} (J : β → World → Prop) : Prop := ∀ s W W', J s W → Below W.heap.size W W' → J s W'
/-- What a round that goes on keeps: all below n₀. -/
def KpV (n₀ : Nat) (W W' : World) : Prop := Below n₀ W W'
theorem KpV.trans {n₀ : Nat} {A B C : World} (h : KpV n₀ A B) (k : KpV n₀ B C) : KpV n₀ A C := Below.trans h k
theorem KpV.refl (n₀ : Nat) (W : World) : KpV n₀ W W := Below.refl _ _
theorem KpV.of_below {n₀ : Nat} {A B : World} (h : Below A.heap.size A B) (hn : n₀ ≤ A.heap.size) : KpV n₀ A B := Below.mono h hn
theorem KpV.putObj {n₀ l : Nat} {W : World} {o o' : Obj} (hn : n₀ ≤ l) (hl : W.heap[l]? = some o) : KpV n₀ W (W.putObj l o') :=
  (Below.refl n₀ W).grown (grownBy_putObj' W l o') (by have := (Array.getElem?_eq_some_iff.1 hl).1; omega) (fun k e => by cases e; exact hn)

/-- What is asked of the function that hands the values on. -/
def HandsV {α : Type} (e1 : α → Value) (n gf : Nat) (lb : Array Value) (n₀ : Nat) (zs : List α) (w : World) : Prop :=
  ∀ (l : Nat) (J Jx : List α → World → Prop) (W : World), Below w.heap.size w W → AbV J →
    (∀ pre x W1, J pre W1 → (pre ++ [x]) <+: zs → YieldAt Fence.wide (n - 1) Tryd.prog l #[e1 x] W1 fun e W' =>
      (e = .returned (.bool true) ∧ J (pre ++ [x]) W' ∧ KpV n₀ W1 W') ∨ (e = .returned (.bool false) ∧ Jx (pre ++ [x]) W')) → J [] W →
    CallsIn Fence.wide n Tryd.prog gf (#[.func (.yield l) #[] #[]] ++ lb) W fun e W' => (∃ v, e = .returned v) ∧ (J zs W' ∨ ∃ pre, pre <+: zs ∧ Jx pre W')

/-- How a round may be left. -/
def LeftV {α : Type} (B n₀ : Nat) (I : List α → World → Prop) (Ix : Code → List α → World → Prop) (xs : List α) (W : World) : Exit → Act → World → Prop
  | .normal, _, W' => KeepsFrom B W W' ∧ KpV n₀ W W' ∧ I xs W'
  | .ret, _, W' => KeepsFrom B W W' ∧ Ix .ret xs W'
  | _, _, _ => False

theorem RowV.cells {B : Nat} {W W' : World} {row : Option Nat} {k : Nat} {o : Obj} (h : RowV B W row) (hg : W.grownBy W' row) (hk : W.heap[k]? = some o) (hc : o.isCells = true) : W'.heap[k]? = some o := by
  refine (hg.block k (Array.getElem?_eq_some_iff.1 hk).1 (fun e => ?_)).trans hk
  obtain ⟨_, o', ho, hn⟩ := h k e.symm
  rw [hk] at ho; cases ho; rw [hc] at hn; cases hn
theorem RowV.blk {B : Nat} {W W' : World} {row : Option Nat} {k : Nat} {t : TypeId} {cs : Array Value} (h : RowV B W row) (hg : W.grownBy W' row) (hb : Blk W k t cs) : Blk W' k t cs := h.cells hg hb rfl
theorem KeptV.below {β : Type} {B : Nat} {J : β → World → Prop} (h : KeptV B J) {s : β} {W W' : World} (hs : J s W) (hb : Below W.heap.size W W') : J s W' :=
  h s W W' none hs ⟨hb.os, hb.tape, hb.output, hb.size, fun k hk _ => hb.block k hk⟩ (fun r e => by cases e)
theorem KeptV.alloc {β : Type} {B : Nat} {J : β → World → Prop} (h : KeptV B J) {s : β} {W : World} (o : Obj) (hs : J s W) : J s (W.alloc o) := h s W _ none hs (World.grownBy_alloc W o none) (fun r e => by cases e)
theorem KeptV.putObj {β : Type} {B : Nat} {J : β → World → Prop} (h : KeptV B J) {s : β} {W : World} {l : Nat} {o : Obj} (o' : Obj) (hs : J s W) (hB : B ≤ l) (hl : W.heap[l]? = some o) (ho : o.isCells = false) : J s (W.putObj l o') :=
  h s W _ (some l) hs (grownBy_putObj' W l o') (fun r e => by cases e; exact ⟨hB, o, hl, ho⟩)

set_option maxHeartbeats 1000000 in
theorem range_v {α : Type} {e1 : α → Value} {n : Nat} {g : Operand} {p : Tmp} {assign body : Code} {Q : Exit → Act → World → Prop} {a : Act} {w w0 : World} (hn : 1 ≤ n) {gf : Nat} {lb : Array Value}
    (hg : a.eval g = .func (.func gf) #[] lb) (eg : ∀ args w, (callFunc gf args).run Tryd.prog w = .ok (.enter gf args) w) {n₀ : Nat} (hn₀ : n₀ ≤ w.heap.size) {zs : List α} (hH : HandsV e1 (n - 1) gf lb n₀ zs w0) (hb0 : Below w0.heap.size w0 w)
    (I : List α → World → Prop) (Ix : Code → List α → World → Prop) (hI : KeptV w.heap.size I) (hIx : ∀ c, KeptV w.heap.size (Ix c)) (h0 : I [] w) (Ax : α → Act → World → Prop) (hAx : ∀ x a' W l o o', Ax x a' W → w.heap.size ≤ l → W.heap[l]? = some o → o.isCells = false → Ax x a' (W.putObj l o'))
    (hassign : ∀ (l : Nat) (pre : List α) (x : α) (W : World) (K : Act → World → Prop), I pre W → (∀ a' W', KeepsFrom w.heap.size W W' → KpV n₀ W W' → I pre W' → Ax x a' W' → K a' W') →
      assign.wpIn (Fence.wide.inRound l) (n - 1 - 1) Tryd.prog (Exit.then K (fun _ _ _ => False)) { tmps := (#[p].zip #[e1 x]).foldl (fun t (p, v) => t.setIfInBounds p v) a.tmps, defers := [] } W)
    (hbody : ∀ (l : Nat) (pre : List α) (x : α) (a' : Act) (W : World), w.heap.size ≤ l → I pre W → Ax x a' W → (pre ++ [x]) <+: zs → body.wpIn (Fence.wide.inRound l) (n - 1 - 1) Tryd.prog (LeftV w.heap.size n₀ I Ix (pre ++ [x]) W) a' W)
    (hdone : ∀ (D : Nat) (W : World), w.heap.size ≤ D → I zs W → W.heap[D]? = some (.deferred (some [])) → Q .normal { a with defers := { target := .collected D, args := #[] } :: a.defers } W)
    (hstop : ∀ (D : Nat) (c : Code) (pre : List α) (W : World), w.heap.size ≤ D → pre <+: zs → Ix c pre W → W.heap[D]? = some (.deferred (some [])) → c.wpIn Fence.wide n Tryd.prog Q { a with defers := { target := .collected D, args := #[] } :: a.defers } W) :
    (Code.rangeFunc g #[p] assign body).wpIn Fence.wide n Tryd.prog Q a w := by
  refine wpIn_rangeFunc fun fn hfn => ?_
  -- the loop's record and the block for deferred calls
  let R : LoopState → Option Code → Loop := fun st pe => { state := st, pending := pe, fn, tmps := a.tmps, params := #[p], assign, body, defers := w.heap.size }
  let V : World := (w.alloc (.deferred (some []))).alloc (.loop (R .ready none))
  have hVl : V.heap[w.heap.size + 1]? = some (.loop (R .ready none)) := by
    have := World.alloc_heap_new (w.alloc (.deferred (some []))) (.loop (R .ready none)); rwa [World.size_alloc] at this
  have hVd : V.heap[w.heap.size]? = some (.deferred (some [])) := (Below.heap_alloc _ _ _ (by simp)).trans (World.alloc_heap_new w _)
  have hVs : V.heap.size = w.heap.size + 2 := by simp [V]
  have hVb : Below w0.heap.size w0 V := hb0.trans ((((Below.refl _ w).alloc (Nat.le_refl _) _).alloc (by simp) _).mono hb0.size)
  refine ⟨w.heap.size + 1, [{ target := .collected w.heap.size, args := #[] }], V, { target := .fn (.func gf) lb, args := #[.func (.yield (w.heap.size + 1)) #[] #[]] }, V, gf,
    #[.func (.yield (w.heap.size + 1)) #[] #[]] ++ lb, V, run_enterLoop_outer _ _ _ _ _, ?_, fun _ _ => trivial, ?_, fun _ => hn, ?_⟩
  · simp only [resolve, hg]
    simp [go_sem]
  · simp [invoke, go_sem, eg]
  refine (hH (w.heap.size + 1)
    (fun pre W => I pre W ∧ W.heap[w.heap.size + 1]? = some (.loop (R .ready none)) ∧ W.heap[w.heap.size]? = some (.deferred (some [])))
    (fun pre W => ∃ c, Ix c pre W ∧ W.heap[w.heap.size + 1]? = some (.loop (R .done (some c))) ∧ W.heap[w.heap.size]? = some (.deferred (some [])))
    V hVb
    (fun s A B hs hb => ⟨hI.below hs.1 hb, (hb.block _ (Array.getElem?_eq_some_iff.1 hs.2.1).1).trans hs.2.1, (hb.block _ (Array.getElem?_eq_some_iff.1 hs.2.2).1).trans hs.2.2⟩)
    ?_ ⟨hI.alloc _ (hI.alloc _ h0), hVl, hVd⟩).mono ?_
  · -- one round
    rintro pre x W ⟨hi, hl, hd⟩ hlen
    refine ⟨fn, _, assign, body, run_yield (P := Tryd.prog) (args := #[e1 x]) hl rfl, roundIn_of_wpIn hfn (hassign _ pre x W _ hi ?_)⟩
    intro a' U hUk hUp hUi hUa
    have hl1 := hUk.same _ _ (by omega) hl rfl
    have hd1 := hUk.same _ _ (Nat.le_refl _) hd rfl
    have hlt := (Array.getElem?_eq_some_iff.1 hl1).1
    refine ⟨_, run_beginRound hl1 rfl, ?_⟩
    let Z : World := U.putObj (w.heap.size + 1) (.loop (R .busy none))
    have hl2 : Z.heap[w.heap.size + 1]? = some (.loop (R .busy none)) := World.putObj_heap_same hlt
    have hd2 : Z.heap[w.heap.size]? = some (.deferred (some [])) := (World.putObj_heap_other (by omega)).trans hd1
    have hZp : KpV n₀ U Z := KpV.putObj (by omega) hl1
    refine wpIn_mono (hbody _ pre x a' Z (by omega) (hI.putObj _ hUi (by omega) hl1 rfl) (hAx _ _ _ _ _ _ hUa (by omega) hl1 rfl) hlen) ?_
    intro e a3 W3 hp
    cases e with
    | normal =>
      obtain ⟨hk3, hp3, hi3⟩ := hp
      have hl3 := hk3.same _ _ (by omega) hl2 rfl
      have hd3 := hk3.same _ _ (Nat.le_refl _) hd2 rfl
      exact ⟨_, _, run_endRound none hl3, .inl ⟨rfl, ⟨hI.putObj _ hi3 (by omega) hl3 rfl, World.putObj_heap_same (Array.getElem?_eq_some_iff.1 hl3).1, (World.putObj_heap_other (by omega)).trans hd3⟩,
        hUp.trans (hZp.trans (hp3.trans (KpV.putObj (by omega) hl3)))⟩⟩
    | ret =>
      obtain ⟨hk3, hi3⟩ := hp
      have hl3 := hk3.same _ _ (by omega) hl2 rfl
      have hd3 := hk3.same _ _ (Nat.le_refl _) hd2 rfl
      exact ⟨_, _, run_endRound (some .ret) hl3, .inr ⟨rfl, .ret, (hIx _).putObj _ hi3 (by omega) hl3 rfl, World.putObj_heap_same (Array.getElem?_eq_some_iff.1 hl3).1, (World.putObj_heap_other (by omega)).trans hd3⟩⟩
    | exit id => exact hp.elim
    | goto t => exact hp.elim
    | panic ch => exact hp.elim
    | outgrown => exact hp.elim
  · -- behind the loop
    rintro e W2 ⟨⟨v, rfl⟩, ⟨hi, hl, hd⟩ | ⟨pre, hp, c, hi, hl, hd⟩⟩
    · exact ⟨none, _, run_endLoop (P := Tryd.prog) hl (by simp [R]), hdone _ _ (Nat.le_refl _) (hI.putObj _ hi (by omega) hl rfl) ((World.putObj_heap_other (by omega)).trans hd)⟩
    · exact ⟨some c, _, run_endLoop (P := Tryd.prog) hl (by simp [R]), hstop _ c pre _ (Nat.le_refl _) hp ((hIx c).putObj _ hi (by omega) hl rfl) ((World.putObj_heap_other (by omega)).trans hd)⟩
end Go.Proofs.YtcakhepiceilkaaDoor
/- math/bits.TrailingZeros64, every number: the library's own table is read as its initialiser lays it. How high a number is: halvings, counted. -/
namespace Go.Proofs.YtcakhepiceilkaaDoor
open Go.RowKit

/-- The table in its variable. -/
def VTab (w : World) : Prop := ∀ j, j < 64 → w.cell? ⟨0, j, none⟩ = some (.int .u8 (Lib.deBruijn64tab.getD j 0 : Nat))
theorem VTab.lt {w : World} (h : VTab w) : 0 < w.heap.size := World.block_lt_of_cell? _ _ (h 0 (by omega))
theorem VTab.later {w w' : World} (h : VTab w) (hb : Below w.heap.size w w') : VTab w' := fun j hj => cell_later hb (h j hj)

/-- So many halvings at most: how often a number is halved without a rest, and 1. -/
def hg : Nat → Nat → Nat
  | 0, _ => 1
  | k + 1, x => if x % 2 = 0 then hg k (x / 2) + 1 else 1
def hgt (x : Nat) : Nat := hg 7 x
theorem hg_le (k x : Nat) : 1 ≤ hg k x ∧ hg k x ≤ k + 1 := by
  induction k generalizing x with
  | zero => simp [hg]
  | succ k ih =>
    unfold hg
    have := ih (x / 2)
    split <;> omega
theorem hgt_le (x : Nat) : 1 ≤ hgt x ∧ hgt x ≤ 8 := hg_le 7 x
theorem hg_zero (k : Nat) : hg k 0 = k + 1 := by
  induction k with
  | zero => rfl
  | succ k ih => rw [hg, if_pos (by omega), show 0 / 2 = 0 from rfl, ih]
theorem hg_from (f k x : Nat) (h0 : 0 < x) (hx : x < 2 ^ f) : hg k x = min (Lib.ctzFrom f x + 1) (k + 1) := by
  induction k generalizing x f with
  | zero => simp [hg]
  | succ k ih =>
    cases f with
    | zero => simp at hx; omega
    | succ f =>
      rw [hg, Lib.ctzFrom]
      by_cases h : x % 2 = 0
      · rw [if_pos h, if_neg (by omega), ih f (x / 2) (by omega) (by rw [Nat.pow_succ] at hx; omega)]
        omega
      · rw [if_neg h, if_pos (by omega)]
        omega
theorem hgt_ctz (x : Nat) (hx : x < 18446744073709551616) : Lib.ctz 64 x ≤ 64 ∧ min (Lib.ctz 64 x + 1) 8 = hgt x := by
  unfold Lib.ctz hgt
  split
  · rename_i h
    subst h
    exact ⟨by omega, by rw [hg_zero]; decide⟩
  · rename_i h
    have := Lib.ctzFrom_spec 64 x (by omega) hx
    obtain ⟨_, _, hk⟩ := this
    exact ⟨by omega, (hg_from 64 7 x (by omega) hx).symm⟩

theorem vtz_key (x a : Nat) (hx : x < 18446744073709551616) (hx0 : x ≠ 0) (hlow : x &&& (18446744073709551616 - x) = a) :
    IntKind.u64.wrap (bits BinOp.and IntKind.u64 (x : Int) (IntKind.u64.wrap (-(x : Int))) * 285870213051353865) / 288230376151711744 = ((a * 285870213051353865 % 18446744073709551616 / 288230376151711744 : Nat) : Int) := by
  have e1 : IntKind.u64.wrap (-(x : Int)) = ((18446744073709551616 - x : Nat) : Int) := by rw [IntKind.wrap_u64]; omega
  rw [e1, bits_and_u64_nat x _ hx (by omega), hlow, IntKind.wrap_u64]
  omega

set_option maxRecDepth 100000 in
set_option maxHeartbeats 1000000 in
theorem vtz_walk (x k idx : Nat) (w : World) (hx0 : ((x : Int) == 0) = false)
    (key : IntKind.u64.wrap (bits BinOp.and IntKind.u64 (x : Int) (IntKind.u64.wrap (-(x : Int))) * 285870213051353865) / 288230376151711744 = (idx : Int))
    (hi : idx < 64) (hk : k < 64) (hcell : w.cell? ⟨0, idx, none⟩ = some (.int .u8 k)) :
    Calls Tryd.prog 22 #[.int .u64 x] w fun e w' => e = .returned (.int .i64 k) ∧ w = w' := by
  go_enter Tryd.func22, Tryd.ntmps22
  go_wp2_with (simp only [key])
  go_ret
  exact ⟨rfl, rfl⟩
set_option maxRecDepth 100000 in
set_option maxHeartbeats 1000000 in
theorem vtz_zero (w : World) : Calls Tryd.prog 22 #[.int .u64 0] w fun e w' => e = .returned (.int .i64 64) ∧ w = w' := by
  go_enter Tryd.func22, Tryd.ntmps22
  go_wp2
  go_ret
  exact ⟨rfl, rfl⟩
theorem vtz_any (x : Nat) (hx : x < 18446744073709551616) (w : World) (hT : VTab w) :
    Calls Tryd.prog 22 #[.int .u64 (x : Int)] w fun e w' => e = .returned (.int .i64 (Lib.ctz 64 x : Int)) ∧ w = w' := by
  by_cases hx0 : x = 0
  · subst hx0
    exact vtz_zero w
  · obtain ⟨hlow, hk⟩ := Lib.lowest_bit 64 x hx0 hx
    obtain ⟨hi, htab⟩ := Lib.deBruijn64_at _ hk
    have hcell := hT _ hi
    rw [htab] at hcell
    exact vtz_walk x _ _ w (by simp; omega) (vtz_key x _ hx hx0 hlow) hi hk hcell

set_option maxRecDepth 100000 in
set_option maxHeartbeats 1000000 in
theorem vheightOf_any (x : Nat) (hx : x < 18446744073709551616) (w : World) (hT : VTab w) :
    Calls Tryd.prog 14 #[.int .u64 (x : Int)] w fun e w' => e = .returned (.int .i64 (hgt x : Int)) ∧ w = w' := by
  have T1 := Lib.hid (vtz_any x hx w hT)
  obtain ⟨hc, hm⟩ := hgt_ctz x hx
  generalize Lib.ctz 64 x = c at *
  generalize hgt x = m at *
  have E1 := Lib.hid hm
  clear hm hx hT
  go_enter Tryd.func14, Tryd.ntmps14
  go_wp2_with fail
  refine T1.out.mono ?_
  rintro e w1 ⟨rfl, rfl⟩
  go_wp2
  all_goals go_ret
  all_goals refine ⟨?_, rfl⟩
  all_goals have := E1.out
  · rw [show (m : Int) = 8 by omega]; rfl
  · rw [show (m : Int) = (c : Int) + 1 by omega]; rfl
end Go.Proofs.YtcakhepiceilkaaDoor
/- The contracts of isKey, mayBe and New, and of the reference's Key and Right. -/
namespace Go.Proofs.YtcakhepiceilkaaDoor
open Go.RowKit

/-- Is a text as long as a slot's key? -/
def keyB (k : List UInt8) : Bool := k.length == 16 || k.length == 32
/-- May a slot be? -/
def mayB (b : Nat) (k : List UInt8) : Bool := keyB k && decide (b ≤ 4294967295)
/-- A slot. -/
abbrev tv (n b : Nat) (k : List UInt8) : Value := .agg #[.int .u64 (n : Int), .int .u64 (b : Int), .string ⟨k.toArray⟩]

theorem tcells {W : World} {g : Nat} {t : TypeId} {x y z : Value} (h : Blk W g t #[x, y, z]) :
    (W.cell? ⟨g, 0, none⟩ = some x ∧ W.cell? ⟨g, 1, none⟩ = some y ∧ W.cell? ⟨g, 2, none⟩ = some z) ∧ W.frozen? ⟨g, 0, none⟩ = false ∧ W.frozen? ⟨g, 1, none⟩ = false ∧ W.frozen? ⟨g, 2, none⟩ = false :=
  ⟨⟨h.cell 0, h.cell 1, h.cell 2⟩, h.frozen 0, h.frozen 1, h.frozen 2⟩
end Go.Proofs.YtcakhepiceilkaaDoor
/- Numbers' bytes, in plain lists: nothing of the program. -/
namespace Go.Proofs.YtcakhepiceilkaaDoor

/-- A number's lowest bytes, the lowest first. -/
def low : Nat → Nat → List UInt8
  | _, 0 => []
  | n, k + 1 => UInt8.ofNat (n % 256) :: low (n / 256) k
/-- The number that bytes tell. -/
def val : List UInt8 → Nat
  | [] => 0
  | b :: l => b.toNat + 256 * val l

theorem low_length (n k : Nat) : (low n k).length = k := by
  induction k generalizing n with
  | zero => rfl
  | succ k ih => simp [low, ih]
theorem ofNat_toNat_mod (n : Nat) : (UInt8.ofNat (n % 256)).toNat = n % 256 := by
  simp
theorem val_low (n k : Nat) : val (low n k) = n % 256 ^ k := by
  induction k generalizing n with
  | zero => simp [low, val, Nat.mod_one]
  | succ k ih =>
    rw [low, val, ih, ofNat_toNat_mod, Nat.pow_succ, Nat.mul_comm (256 ^ k) 256, Nat.mod_mul]
theorem val_lt (l : List UInt8) : val l < 256 ^ l.length := by
  induction l with
  | nil => simp [val]
  | cons b l ih =>
    have hb := b.toNat_lt
    simp only [val, List.length_cons, Nat.pow_succ]
    omega
theorem low_val (l : List UInt8) : low (val l) l.length = l := by
  induction l with
  | nil => rfl
  | cons b l ih =>
    have hb := b.toNat_lt
    simp only [val, List.length_cons, low]
    have h1 : (b.toNat + 256 * val l) % 256 = b.toNat := by omega
    have h2 : (b.toNat + 256 * val l) / 256 = val l := by omega
    rw [h1, h2, ih]
    simp
theorem low_snoc (n k : Nat) : low n (k + 1) = low n k ++ [UInt8.ofNat (n / 256 ^ k % 256)] := by
  induction k generalizing n with
  | zero => simp [low]
  | succ k ih =>
    rw [low, ih (n / 256), low]
    simp [Nat.div_div_eq_div_mul, Nat.pow_succ, Nat.mul_comm]
theorem val_snoc (l : List UInt8) (b : UInt8) : val (l ++ [b]) = val l + 256 ^ l.length * b.toNat := by
  induction l with
  | nil => simp [val]
  | cons c l ih =>
    simp only [List.cons_append, val, ih, List.length_cons, Nat.pow_succ]
    rw [Nat.mul_add, Nat.mul_comm (256 ^ l.length) 256, Nat.mul_assoc, Nat.add_assoc]
theorem val_append (l m : List UInt8) : val (l ++ m) = val l + 256 ^ l.length * val m := by
  induction l with
  | nil => simp [val]
  | cons c l ih =>
    simp only [List.cons_append, val, ih, List.length_cons, Nat.pow_succ]
    rw [Nat.mul_add, Nat.mul_comm (256 ^ l.length) 256, Nat.mul_assoc, Nat.add_assoc]
theorem low_inj {n m k : Nat} (hn : n < 256 ^ k) (hm : m < 256 ^ k) (h : low n k = low m k) : n = m := by
  have := congrArg val h
  rw [val_low, val_low, Nat.mod_eq_of_lt hn, Nat.mod_eq_of_lt hm] at this
  exact this

theorem mod_pow_succ (n k : Nat) : n % 256 ^ (k + 1) = n % 256 ^ k + 256 ^ k * (n / 256 ^ k % 256) := by
  rw [Nat.pow_succ, Nat.mod_mul]
theorem ofNat_lt (a b : Nat) : (UInt8.ofNat (a % 256) < UInt8.ofNat (b % 256)) ↔ a % 256 < b % 256 := by
  rw [UInt8.lt_iff_toNat_lt, ofNat_toNat_mod, ofNat_toNat_mod]
theorem ofNat_eq (a b : Nat) : (UInt8.ofNat (a % 256) = UInt8.ofNat (b % 256)) ↔ a % 256 = b % 256 := by
  rw [← UInt8.toNat_inj, ofNat_toNat_mod, ofNat_toNat_mod]
theorem less_low (n m k : Nat) : Op.bytesLess (low n k).reverse (low m k).reverse = decide (n % 256 ^ k < m % 256 ^ k) := by
  induction k with
  | zero => simp [low, Op.bytesLess, Nat.mod_one]
  | succ k ih =>
    rw [low_snoc, low_snoc, List.reverse_append, List.reverse_append]
    simp only [List.reverse_cons, List.reverse_nil, List.nil_append, List.singleton_append, Op.bytesLess, ih]
    rw [mod_pow_succ n k, mod_pow_succ m k]
    have hn : n % 256 ^ k < 256 ^ k := Nat.mod_lt _ (Nat.pow_pos (by omega))
    have hm : m % 256 ^ k < 256 ^ k := Nat.mod_lt _ (Nat.pow_pos (by omega))
    generalize 256 ^ k = K at hn hm ⊢
    have e1 := ofNat_lt (n / K) (m / K)
    have e2 := ofNat_eq (n / K) (m / K)
    generalize n / K % 256 = a at e1 e2 ⊢
    generalize m / K % 256 = b at e1 e2 ⊢
    generalize n % K = x at hn ⊢
    generalize m % K = y at hm ⊢
    rw [Bool.eq_iff_iff]
    simp only [Bool.or_eq_true, Bool.and_eq_true, decide_eq_true_eq, beq_iff_eq, e1, e2]
    rcases Nat.lt_trichotomy a b with h | h | h
    · have : K * (a + 1) ≤ K * b := Nat.mul_le_mul_left K h
      rw [Nat.mul_add] at this
      omega
    · subst h; omega
    · have : K * (b + 1) ≤ K * a := Nat.mul_le_mul_left K h
      rw [Nat.mul_add] at this
      omega
theorem same_low {n m : Nat} (hn : n < 256 ^ 8) (hm : m < 256 ^ 8) : ((low n 8).reverse == (low m 8).reverse) = decide (n = m) := by
  rw [Bool.eq_iff_iff]
  simp only [beq_iff_eq, decide_eq_true_eq, List.reverse_inj]
  exact ⟨low_inj hn hm, fun h => by rw [h]⟩
end Go.Proofs.YtcakhepiceilkaaDoor
/- Contracts of pass, and of the writer's low. -/
namespace Go.Proofs.YtcakhepiceilkaaDoor
open Go.RowKit

set_option maxHeartbeats 400000 in
theorem pass_any (p : Nat) (n m : Int) (w : World) (h : At w p 0 (.int .i64 n)) (n0 : 0 ≤ n) (m0 : 0 ≤ m) (hs : n + m ≤ 9223372036854775807) :
    Calls Tryd.prog 42 #[.pointer (some ⟨p, 0, none⟩), .int .i64 m] w fun e w' => e = .returned (.int .i64 n) ∧ w' = w.setCell ⟨p, 0, none⟩ (.int .i64 (n + m)) := by
  obtain ⟨hc, hf⟩ := h
  go_enter Tryd.func42, Tryd.ntmps42
  go_wp2
  go_ret
  exact ⟨rfl, rfl⟩

/-- A byte's cell. -/
abbrev cbv (b : UInt8) : Value := .int .u8 (b.toNat : Int)
/-- The cells of so many bytes, of which those ahead are D, and the others 0. -/
def row (D : List UInt8) (N : Nat) : Array Value := ((D ++ List.replicate (N - D.length) 0).map cbv).toArray
/-- A writer, and what it has written. -/
def Wr (W : World) (p g : Nat) (D : List UInt8) (N : Nat) : Prop :=
  Blk W p 62 #[.int .i64 (D.length : Int), .slice (some ⟨g, 0, none⟩) N N] ∧ Blk W g 5 (row D N) ∧ D.length ≤ N
theorem Blk.ne_ {w : World} {g g' : Nat} {t t' : TypeId} {cs cs' : Array Value} (h : Blk w g t cs) (h' : Blk w g' t' cs') (hne : t ≠ t') : g ≠ g' := by
  rintro rfl
  unfold Blk at h h'
  rw [h] at h'
  injection h' with h'
  injection h' with _ ht
  exact hne ht
theorem Wr.ne {W : World} {p g : Nat} {D : List UInt8} {N : Nat} (h : Wr W p g D N) : p ≠ g := h.1.ne_ h.2.1 (by decide)
theorem row_size (D : List UInt8) (N : Nat) (h : D.length ≤ N) : (row D N).size = N := by
  simp [row]; omega
theorem row_set (D : List UInt8) (N : Nat) (b : UInt8) (h : D.length < N) : (row D N).setIfInBounds D.length (cbv b) = row (D ++ [b]) N := by
  unfold row
  obtain ⟨r, hr⟩ : ∃ r, N - D.length = r + 1 := ⟨N - D.length - 1, by omega⟩
  have hr' : N - (D ++ [b]).length = r := by simp; omega
  rw [hr, hr']
  simp [List.replicate_succ]
theorem crow_at (D : List UInt8) (N : Nat) (h : D.length < N) : (row D N)[D.length]? = some (.int .u8 0) := by
  unfold row
  obtain ⟨r, hr⟩ : ∃ r, N - D.length = r + 1 := ⟨N - D.length - 1, by omega⟩
  rw [hr]
  simp [List.replicate_succ]

theorem u8_wrap (q : Nat) : IntKind.u8.wrap (q : Int) = ((UInt8.ofNat (q % 256)).toNat : Int) := by
  rw [IntKind.wrap_u8, ofNat_toNat_mod]; omega

set_option maxRecDepth 100000 in
set_option maxHeartbeats 1000000 in
theorem wlow_any (p g n m N : Nat) (D : List UInt8) (w : World) (h : Wr w p g D N) (hn : (n : Int) ≤ 18446744073709551615) (hm : D.length + m ≤ N) (hN : (N : Int) ≤ 9223372036854775807) :
    Calls Tryd.prog 34 #[.pointer (some ⟨p, 0, none⟩), .int .u64 (n : Int), .int .i64 (m : Int)] w fun e w' => e = .returned (.tuple #[]) ∧ Wr w' p g (D ++ low n m) N ∧ Off p g w w' := by
  go_enter Tryd.func34, Tryd.ntmps34
  go_wp2
  go_loopw [1, 7] (fun nv iv wr => ∃ k q : Nat, k ≤ m ∧ iv = .int .i64 k ∧ nv = .int .u64 (q : Int) ∧ (q : Int) ≤ 18446744073709551615 ∧ Hid (q = n / 256 ^ k) ∧ Wr wr p g (D ++ low n k) N ∧ Off p g w wr) (fun _ i _ => m - (intOf i).toNat)
  case atStart => exact ⟨0, n, Nat.zero_le _, rfl, rfl, hn, Lib.hid (by simp), by simpa [low] using h, Off.refl _ _ _⟩
  case round =>
    obtain ⟨k, q, hk, rfl, rfl, hq1, HQ, hw, ho⟩ := hrel
    by_cases hlt : k < m
    · obtain ⟨hp, hg, hl⟩ := hw
      have hne : p ≠ g := hp.ne_ hg (by decide)
      have hL : (D ++ low n k).length = D.length + k := by rw [List.length_append, low_length]
      have P0 := hp.at_ (i := 0) rfl
      have P1 := (hp.at_ (i := 1) rfl).1
      have G0 := hg.at_ (crow_at (D ++ low n k) N (by omega))
      rw [hL] at P0 G0
      obtain ⟨d, hd⟩ : ∃ d, D.length + k = d := ⟨_, rfl⟩
      rw [hd] at P0 G0
      have G1 := G0.1
      have G2 := G0.2
      have i0 : (0 : Int) ≤ (d : Int) := by omega
      have i1 : (d : Int) < (N : Int) := by omega
      have hWr : Wr ((wr.setCell ⟨p, 0, none⟩ (.int .i64 ((d : Int) + 1))).setCell ⟨g, d, none⟩ (.int .u8 ((UInt8.ofNat (q % 256)).toNat : Int))) p g (D ++ low n (k + 1)) N := by
        refine ⟨?_, ?_, ?_⟩
        · have := (hp.set_ 0 (.int .i64 ((d : Int) + 1))).far (p := ⟨g, d, none⟩) hne (.int .u8 ((UInt8.ofNat (q % 256)).toNat : Int))
          rw [low_snoc, ← List.append_assoc, List.length_append, hL, hd]
          simpa using this
        · have := (hg.far (p := ⟨p, 0, none⟩) (Ne.symm hne) (.int .i64 ((d : Int) + 1))).set_ d (cbv (UInt8.ofNat (q % 256)))
          rw [← hd, ← hL, row_set _ _ _ (by omega)] at this
          rw [low_snoc, ← List.append_assoc, ← HQ.out, ← hd, ← hL]
          exact this
        · simp [low_length]; omega
      have P3 : ((wr.setCell ⟨p, 0, none⟩ (.int .i64 ((d : Int) + 1))).setCell ⟨g, d, none⟩ (.int .u8 ((UInt8.ofNat (q % 256)).toNat : Int))).cell? ⟨p, 1, none⟩ = some (.slice (some ⟨g, 0, none⟩) N N) := (World.cell?_setCell_other _ _ _ _ (by simp)).trans ((World.cell?_setCell_other _ _ _ _ (by simp)).trans P1)
      have HWr := Lib.hid hWr
      have hOff : Off p g w ((wr.setCell ⟨p, 0, none⟩ (.int .i64 ((d : Int) + 1))).setCell ⟨g, d, none⟩ (.int .u8 ((UInt8.ofNat (q % 256)).toNat : Int))) := (ho.setCell (.inl rfl) _).setCell (.inr rfl) _
      have P2 : (wr.setCell ⟨p, 0, none⟩ (.int .i64 ((d : Int) + 1))).cell? ⟨p, 1, none⟩ = some (.slice (some ⟨g, 0, none⟩) N N) := (World.cell?_setCell_other _ _ _ _ (by simp)).trans P1
      clear hWr hL hg hp G0
      have hB := u8_wrap q
      obtain ⟨b, hb⟩ : ∃ b, UInt8.ofNat (q % 256) = b := ⟨_, rfl⟩
      rw [hb] at hB HWr hOff P3
      have HD := Lib.hid hd
      clear hb hd
      go_wp2_with fail
      go_region_held3 (fun W => W.cell? ⟨p, 1, none⟩ = some (.slice (some ⟨g, 0, none⟩) N N)) (first | exact P1 | exact P2 | exact P3 | assumption | go_keep) (first | (go_at_call 42; refine (pass_any p d 1 _ P0.drew (by omega) (by omega) (by omega)).mono ?_; rintro e w' ⟨rfl, rfl⟩))
      go_wp2
      exact ⟨⟨k + 1, q / 256, by omega, by go_num, by go_num, by omega, Lib.hid (by rw [HQ.out, Nat.div_div_eq_div_mul, Nat.pow_succ]), HWr.out, hOff.drew⟩, by simp [intOf]; omega⟩
    · obtain rfl : k = m := by omega
      go_wp2
      go_end0
      exact ⟨rfl, hw, ho⟩
end Go.Proofs.YtcakhepiceilkaaDoor
