/- Texts of this seat, one behind the other: Mem, Str, VRow, MemH, IRow. -/
import Derived.Test.YtegojdblaanclaaDoorRows
import Derived.WalkKit
import Derived.WalkSpells
import Derived.WalkLawsBesides
import Derived.BigQuiet
import Derived.Deep.QuietTactic
import Derived.RegionTactic
import Derived.ChangeAlike
import Derived.Lib.Hide
import Derived.Laws.IdiomStrings
import Derived.Laws.Rows
import Derived.Deep.Draws
import Derived.Deep.RegionHeld3
import Derived.Deep.DrawnRows
import Derived.Laws.MakeOwn
import Derived.RangeFuncBox
import Derived.Laws.OwnMore
import Derived.Deep.AppendLies
import Derived.Deep.MidRow
import Derived.Deep.CutRange
/- Words for memory: cells, blocks that are known whole, and what stays as it was. Nothing of any function. -/
namespace Go.Proofs.YtegojdblaanclaaDoor
open Go.RowKit

theorem size_mk (s : List UInt8) : (⟨s.toArray⟩ : ByteArray).size = s.length := by simp [ByteArray.size]
theorem get_mk (s : List UInt8) (k : Nat) (h' : k < (⟨s.toArray⟩ : ByteArray).size) : (⟨s.toArray⟩ : ByteArray)[k]'h' = s[k]'(by rw [size_mk] at h'; exact h') := by
  simp [ByteArray.getElem_eq_getElem_data]
theorem bcell {W w1 : World} (hb : Below W.heap.size W w1) : (∀ b o, b < W.heap.size → w1.cell? ⟨b, o, none⟩ = W.cell? ⟨b, o, none⟩) ∧ (∀ b o, b < W.heap.size → w1.frozen? ⟨b, o, none⟩ = W.frozen? ⟨b, o, none⟩) :=
  ⟨fun b o h => hb.cell (p := ⟨b, o, none⟩) h, fun b o h => hb.frozen (p := ⟨b, o, none⟩) h⟩

theorem ba {w w1 : World} (h : Below w.heap.size w w1) (o : Obj) : Below w.heap.size w (w1.alloc o) := h.alloc h.size o
theorem bt {w w1 w2 : World} (h : Below w.heap.size w w1) (h2 : Below w1.heap.size w1 w2) : Below w.heap.size w w2 := h.trans (h2.mono h.size)
theorem bs {w w1 : World} (h : Below w.heap.size w w1) {b o : Nat} (hp : w.heap.size ≤ b) (v : Value) : Below w.heap.size w (w1.setCell ⟨b, o, none⟩ v) := h.setCell (p := ⟨b, o, none⟩) hp v

/-- A cell that can be read and written. -/
def At (W : World) (b o : Nat) (v : Value) : Prop := W.cell? ⟨b, o, none⟩ = some v ∧ W.frozen? ⟨b, o, none⟩ = false
theorem At.lt {W : World} {b o : Nat} {v : Value} (h : At W b o v) : b < W.heap.size := World.block_lt_of_cell? _ _ h.1
theorem At.later {W w1 : World} {b o : Nat} {v : Value} (h : At W b o v) (hb : Below W.heap.size W w1) : At w1 b o v :=
  ⟨cell_later hb h.1, (hb.frozen (p := ⟨b, o, none⟩) h.lt).trans h.2⟩
theorem At.alloc {W : World} {b o : Nat} {v : Value} (h : At W b o v) (ob : Obj) : At (W.alloc ob) b o v := h.later ((Below.refl _ _).alloc (Nat.le_refl _) ob)
theorem At.drew {W : World} {b o : Nat} {v : Value} (h : At W b o v) : At W.drew b o v := h
theorem At.drewN {W : World} {b o : Nat} {v : Value} (h : At W b o v) (n : Nat) : At (W.drewN n) b o v := h
theorem At.new (W : World) (x : Array Value) (t : TypeId) {o : Nat} {v : Value} (h : x[o]? = some v) : At (W.alloc (.cells x t)) W.heap.size o v := by
  constructor
  · simp [h]
  · go_simp

/-- A block that is known whole. -/
def Blk (w : World) (g : Nat) (t : TypeId) (cs : Array Value) : Prop := w.heap[g]? = some (.cells cs t (0, 0))
section
variable {w w' : World} {g : Nat} {t : TypeId} {cs : Array Value}
theorem Blk.lt (h : Blk w g t cs) : g < w.heap.size := by
  rcases Nat.lt_or_ge g w.heap.size with hlt | hge
  · exact hlt
  · unfold Blk at h; rw [Array.getElem?_eq_none hge] at h; cases h
theorem Blk.cell (h : Blk w g t cs) (i : Nat) : w.cell? ⟨g, i, none⟩ = cs[i]? := cell_of_row w g i cs t (0, 0) h
theorem Blk.frozen (h : Blk w g t cs) (i : Nat) : w.frozen? ⟨g, i, none⟩ = false := by
  unfold Blk at h
  simp [World.frozen?, h]
theorem Blk.at_ (h : Blk w g t cs) {i : Nat} {v : Value} (hv : cs[i]? = some v) : At w g i v := ⟨(h.cell i).trans hv, h.frozen i⟩
theorem Blk.new (w : World) (t : TypeId) (cs : Array Value) : Blk (w.alloc (.cells cs t)) w.heap.size t cs := heap_alloc_new w _
theorem Blk.newAt {w : World} {g : Nat} (h : w.heap.size = g) (t : TypeId) (cs : Array Value) : Blk (w.alloc (.cells cs t)) g t cs := by subst h; exact Blk.new w t cs
theorem Blk.drew (h : Blk w g t cs) : Blk w.drew g t cs := h
theorem Blk.drewN (h : Blk w g t cs) (n : Nat) : Blk (w.drewN n) g t cs := h
theorem Blk.alloc (h : Blk w g t cs) (o : Obj) : Blk (w.alloc o) g t cs := (Below.heap_alloc w o g h.lt).trans h
theorem Blk.set_ (h : Blk w g t cs) (i : Nat) (u : Value) : Blk (w.setCell ⟨g, i, none⟩ u) g t (cs.setIfInBounds i u) := by
  unfold Blk at h ⊢
  simp [World.setCell, Array.getElem?_modify, h]
theorem Blk.far (h : Blk w g t cs) {p : Addr} (hp : g ≠ p.block) (u : Value) : Blk (w.setCell p u) g t cs := (Below.heap_setCell w p u g hp).trans h
theorem Blk.below (h : Blk w g t cs) (hb : Below w.heap.size w w') : Blk w' g t cs := (hb.block g h.lt).trans h
theorem Blk.grown {row : Option Nat} (h : Blk w g t cs) (hb : w.grownBy w' row) (hg : some g ≠ row) : Blk w' g t cs := (hb.block g h.lt hg).trans h
end

/-- But for the blocks p and g what was there is as it was. -/
structure Off (p g : Nat) (w w' : World) : Prop where
  os : w'.os = w.os
  tape : w'.tape = w.tape
  output : w'.output = w.output
  size : w.heap.size ≤ w'.heap.size
  block : ∀ k, k < w.heap.size → k ≠ p → k ≠ g → w'.heap[k]? = w.heap[k]?
section
variable {p g : Nat} {a b w w' : World}
theorem Off.refl (p g : Nat) (w : World) : Off p g w w := ⟨rfl, rfl, rfl, Nat.le_refl _, fun _ _ _ _ => rfl⟩
theorem Off.trans (h : Off p g a b) (k : Off p g b w) : Off p g a w :=
  ⟨k.os.trans h.os, k.tape.trans h.tape, k.output.trans h.output, Nat.le_trans h.size k.size, fun i hi hp hg => (k.block i (Nat.lt_of_lt_of_le hi h.size) hp hg).trans (h.block i hi hp hg)⟩
theorem Off.drew (h : Off p g a w) : Off p g a w.drew := ⟨h.os, h.tape, h.output, h.size, h.block⟩
theorem Off.drewN (h : Off p g a w) (n : Nat) : Off p g a (w.drewN n) := ⟨h.os, h.tape, h.output, h.size, h.block⟩
theorem Off.alloc (h : Off p g a w) (o : Obj) : Off p g a (w.alloc o) :=
  h.trans ⟨rfl, rfl, rfl, by simp, fun k hk _ _ => Below.heap_alloc w o k hk⟩
theorem Off.setCell (h : Off p g a w) {q : Addr} (hq : q.block = p ∨ q.block = g) (v : Value) : Off p g a (w.setCell q v) :=
  h.trans ⟨rfl, rfl, rfl, by simp [World.setCell], fun k _ hp hg => Below.heap_setCell w q v k (by
    rintro rfl
    rcases hq with hq | hq
    · exact hp hq
    · exact hg hq)⟩
theorem Off.below_mid (h : Off p g a w) (hb : Below w.heap.size w w') : Off p g a w' :=
  h.trans ⟨hb.os, hb.tape, hb.output, hb.size, fun k hk _ _ => hb.block k hk⟩
theorem Off.below {B : Nat} (h : Off p g a w) (hp : B ≤ p) (hg : B ≤ g) (hB : B ≤ a.heap.size) : Below B a w :=
  ⟨h.os, h.tape, h.output, h.size, fun k hk => h.block k (by omega) (by omega) (by omega)⟩
theorem Off.blk (h : Off p g a w) {k : Nat} {t : TypeId} {cs : Array Value} (hk : Blk a k t cs) (hp : k ≠ p) (hg : k ≠ g) : Blk w k t cs := (h.block k hk.lt hp hg).trans hk
theorem Off.at_ (h : Off p g a w) {k o : Nat} {v : Value} (hk : At a k o v) (hp : k ≠ p) (hg : k ≠ g) : At w k o v :=
  ⟨(World.cell?_of_block (a := ⟨k, o, none⟩) (h.block k hk.lt hp hg)).trans hk.1, (World.frozen?_of_block (a := ⟨k, o, none⟩) (h.block k hk.lt hp hg)).trans hk.2⟩
end
end Go.Proofs.YtegojdblaanclaaDoor
/- Words for slices of strings: what can be read of one, and one that the call made. Nothing of any function. -/
namespace Go.Proofs.YtegojdblaanclaaDoor
open Go.RowKit

/-- A string's cell. -/
abbrev sv (x : List UInt8) : Value := .string ⟨x.toArray⟩
/-- A row of strings that can be read: where it lies, if it has any. -/
def SR (w : World) (A : Option Addr) (L : List (List UInt8)) : Prop :=
  ∀ j, j < L.length → ∃ g off, A = some ⟨g, off, none⟩ ∧ w.cell? ⟨g, off + j, none⟩ = some (sv (L.getD j []))
theorem SR.later {w w' : World} {A : Option Addr} {L : List (List UInt8)} (h : SR w A L) (hb : Below w.heap.size w w') : SR w' A L := fun j hj => by
  obtain ⟨g, off, e, h0⟩ := h j hj
  exact ⟨g, off, e, cell_later hb h0⟩
theorem SR.drew {w : World} {A : Option Addr} {L : List (List UInt8)} (h : SR w A L) : SR w.drew A L := h
theorem SR.drewN {w : World} {A : Option Addr} {L : List (List UInt8)} (h : SR w A L) (n : Nat) : SR (w.drewN n) A L := h
theorem SR.nil (w : World) (A : Option Addr) : SR w A [] := fun j hj => absurd hj (by simp)
theorem getD_take {α : Type} (L : List α) (m j : Nat) (d : α) (h : j < m) : (L.take m).getD j d = L.getD j d := by
  simp only [List.getD, List.getElem?_take, h, if_true]
theorem SR.take {w : World} {A : Option Addr} {L : List (List UInt8)} (h : SR w A L) (m : Nat) : SR w A (L.take m) := fun j hj => by
  rw [List.length_take] at hj
  obtain ⟨g, off, e, h0⟩ := h j (by omega)
  exact ⟨g, off, e, by rw [getD_take _ _ _ _ (by omega)]; exact h0⟩
theorem getD_drop {α : Type} (L : List α) (m j : Nat) (d : α) : (L.drop m).getD j d = L.getD (m + j) d := by simp [List.getD]
/-- The row from a place on. -/
theorem SR.drop {w : World} {g off : Nat} {L : List (List UInt8)} (h : SR w (some ⟨g, off, none⟩) L) (m : Nat) : SR w (some ⟨g, off + m, none⟩) (L.drop m) := fun j hj => by
  rw [List.length_drop] at hj
  obtain ⟨g', off', e, h0⟩ := h (m + j) (by omega)
  obtain ⟨rfl, rfl⟩ : g = g' ∧ off = off' := by injection e with e; injection e with e1 e2; exact ⟨e1, e2⟩
  exact ⟨g, off + m, rfl, by rw [getD_drop, Nat.add_assoc]; exact h0⟩
theorem svs_at (L : List (List UInt8)) (j : Nat) (h : j < L.length) : (L.map sv)[j]? = some (sv (L.getD j [])) := by
  simp [List.getD, h]
theorem own_SR {W : World} {base g c n : Nat} {L : List (List UInt8)} (h : W.ownsRow base 9 1 (.slice (some ⟨g, 0, none⟩) n c) n (L.map sv)) (hl : L.length = n) : SR W (some ⟨g, 0, none⟩) L := fun j hj =>
  ⟨g, 0, rfl, by rw [Nat.zero_add, h.cellAt j (by omega), svs_at L j hj]⟩
theorem own_form {W : World} {base : Nat} {e : TypeId} {size : Nat} {v : Value} {n : Nat} {xs : List Value} (h : W.ownsRow base e size v n xs) : ∃ A c, v = .slice A n c ∧ ((A = none ∧ n = 0 ∧ c = 0) ∨ ∃ g, A = some ⟨g, 0, none⟩ ∧ n ≤ c ∧ c ≤ maxLen ∧ base ≤ g) := by
  rcases h.2 with ⟨rfl, rfl⟩ | ⟨g, cap, cur, rfl, hb, _, hn, hc, _⟩
  · exact ⟨none, 0, rfl, .inl ⟨rfl, rfl, rfl⟩⟩
  · exact ⟨_, cap, rfl, .inr ⟨g, rfl, hn, hc, hb⟩⟩
theorem own_SR' {W : World} {base : Nat} {A : Option Addr} {n c : Nat} {L : List (List UInt8)} (h : W.ownsRow base 9 1 (.slice A n c) n (L.map sv)) (hl : L.length = n) : SR W A L := by
  obtain ⟨A', c', e, hh⟩ := own_form h
  injection e with e1 e2 e3
  subst e1
  subst e3
  rcases hh with ⟨rfl, rfl, rfl⟩ | ⟨g, rfl, _⟩
  · obtain rfl : L = [] := List.eq_nil_of_length_eq_zero hl
    exact SR.nil _ _
  · exact own_SR h hl
theorem own_later {W W' : World} {base : Nat} {e : TypeId} {size : Nat} {v : Value} {n : Nat} {xs : List Value} (h : W.ownsRow base e size v n xs) (hb : Below W.heap.size W W') : W'.ownsRow base e size v n xs := by
  obtain ⟨h1, h2⟩ := h
  refine ⟨h1, ?_⟩
  rcases h2 with h2 | ⟨g, cap, cur, hv, hg, hh, r⟩
  · exact Or.inl h2
  · exact Or.inr ⟨g, cap, cur, hv, hg, (hb.block g (Array.getElem?_eq_some_iff.1 hh).1).trans hh, r⟩
theorem infoS : (Tryd.prog.info? 9).map (fun i => (i.zero, i.size, i.bytes)) = some (some (.string ⟨#[]⟩), 1, 16) := by kernel_rfl
theorem make_strs (n : Nat) (hn : n ≤ 65536) : ∃ Z : Array Value, Z.size = n ∧ ∀ W : World, (Instr.makeSlice 101 (.int .i64 0) (.int .i64 (n : Int))).run Tryd.prog W = .ok (.slice (some ⟨W.heap.size, 0, none⟩) 0 n) (W.alloc (.cells Z 9)) := by
  obtain ⟨i0, hi, hz0, hz1, hz2⟩ := info_parts infoS
  refine ⟨madeCells (Value.string ⟨#[]⟩).cells (n * 1), by simp [madeCells, Value.cells], fun W => ?_⟩
  have h := run_makeSlice (P := Tryd.prog) W 101 9 i0 (.string ⟨#[]⟩) Tryd.underlying101 hi hz0 .i64 .i64 0 n (by omega) (by omega) (by rw [hz1]; omega) (by rw [hz2]; omega) (by omega)
  rw [hz1] at h
  exact h
end Go.Proofs.YtegojdblaanclaaDoor
/- Rows of numbers in memory (of type int, or uint64), and the words for a row that the call made. Nothing of any function. -/
namespace Go.Proofs.YtegojdblaanclaaDoor
open Go.RowKit

/-- A number's cell: an int's, and a uint64's. -/
abbrev vi (x : Nat) : Value := .int .i64 (x : Int)
abbrev vu (x : Nat) : Value := .int .u64 (x : Int)
/-- A row that can be read: where it lies, if it has any. -/
def VR (q : Nat → Value) (w : World) (A : Option Addr) (L : List Nat) : Prop :=
  ∀ j, j < L.length → ∃ g off, A = some ⟨g, off, none⟩ ∧ w.cell? ⟨g, off + j, none⟩ = some (q (L.getD j 0))
section
variable {q : Nat → Value} {w w' : World} {A : Option Addr} {L : List Nat}
theorem VR.later (h : VR q w A L) (hb : Below w.heap.size w w') : VR q w' A L := fun j hj => by
  obtain ⟨g, off, e, h0⟩ := h j hj
  exact ⟨g, off, e, cell_later hb h0⟩
theorem VR.nil (q : Nat → Value) (w : World) (A : Option Addr) : VR q w A [] := fun j hj => absurd hj (by simp)
theorem vget_take (L : List Nat) (m j : Nat) (h : j < m) : (L.take m).getD j 0 = L.getD j 0 := by
  simp [List.getD, h]
theorem VR.take (h : VR q w A L) (m : Nat) : VR q w A (L.take m) := fun j hj => by
  rw [List.length_take] at hj
  obtain ⟨g, off, e, h0⟩ := h j (by omega)
  exact ⟨g, off, e, by rw [vget_take _ _ _ (by omega)]; exact h0⟩
theorem vqs_at (q : Nat → Value) (L : List Nat) (j : Nat) (h : j < L.length) : (L.map q)[j]? = some (q (L.getD j 0)) := by
  simp [List.getD, h]
theorem own_VR {W : World} {base : Nat} {e : TypeId} {n c : Nat} (h : W.ownsRow base e 1 (.slice A n c) n (L.map q)) (hl : L.length = n) : VR q W A L := by
  obtain ⟨A', c', e, hh⟩ := own_form h
  injection e with e1 e2 e3
  subst e1
  subst e3
  rcases hh with ⟨rfl, rfl, rfl⟩ | ⟨g, rfl, _⟩
  · obtain rfl : L = [] := List.eq_nil_of_length_eq_zero hl
    exact VR.nil _ _ _
  · intro j hj
    exact ⟨g, 0, rfl, by rw [Nat.zero_add, h.cellAt j (by omega), vqs_at q L j hj]⟩
theorem blk_VR {W : World} {g : Nat} {t : TypeId} (h : Blk W g t (L.map q).toArray) : VR q W (some ⟨g, 0, none⟩) L := fun j hj =>
  ⟨g, 0, rfl, by rw [Nat.zero_add, h.cell j, List.getElem?_toArray, vqs_at q L j hj]⟩
end
theorem vget_ext {L M : List Nat} {n : Nat} (hl : L.length = n) (hm : M.length = n) (h : ∀ j, j < n → L.getD j 0 = M.getD j 0) : L = M := by
  apply List.ext_getElem
  · rw [hl, hm]
  · intro i h1 h2
    have := h i (by omega)
    simpa [List.getD, h1, h2] using this
theorem infoVI : (Tryd.prog.info? 3).map (fun i => (i.zero, i.size, i.bytes)) = some (some (.int .i64 0), 1, 8) := by kernel_rfl

theorem vmake_ints (n : Nat) (hn : n ≤ 65536) (W : World) : (Instr.makeSlice 52 (.int .i64 (n : Int)) (.int .i64 (n : Int))).run Tryd.prog W = .ok (.slice (some ⟨W.heap.size, 0, none⟩) n n) (W.alloc (.cells (Array.replicate n (vi 0)) 3)) := by
  obtain ⟨i0, hi, hz0, hz1, hz2⟩ := info_parts infoVI
  have h := run_makeSlice (P := Tryd.prog) (w := W) 52 3 i0 (.int .i64 0) Tryd.underlying52 hi hz0 .i64 .i64 n n (by omega) (by omega) (by rw [hz1]; omega) (by rw [hz2]; omega) (by omega)
  rw [hz1] at h
  have e : madeCells (Value.int .i64 0).cells ((n : Int).toNat * 1) = (Array.replicate n (vi 0)) := by
    simp [madeCells, Value.cells]
    apply Array.ext
    · simp
    · intro i h1 h2
      simp [Nat.mod_one]
  rw [e] at h
  exact h
/-- What is filled so far: the first ones are as they are to be, the others 0. -/
def vfill (T : List Nat) (j : Nat) : List Nat := (List.range T.length).map fun i => if i < j then T.getD i 0 else 0
theorem vfill_zero (T : List Nat) : vfill T 0 = List.replicate T.length 0 := by
  apply List.ext_getElem
  · simp [vfill]
  · intro i h1 h2
    simp [vfill]
theorem vfill_all (T : List Nat) : vfill T T.length = T := by
  apply List.ext_getElem
  · simp [vfill]
  · intro i h1 h2
    have h3 : i < T.length := by simpa [vfill] using h1
    simp [vfill, h3, List.getD]
theorem vfill_set (T : List Nat) (j x : Nat) (hx : T.getD j 0 = x) : (vfill T j).set j x = vfill T (j + 1) := by
  subst hx
  apply List.ext_getElem
  · simp [vfill]
  · intro i h1 h2
    rw [List.getElem_set]
    simp only [vfill, List.getElem_map, List.getElem_range]
    by_cases hij : j = i
    · subst hij
      rw [if_pos rfl, if_pos (by omega)]
    · rw [if_neg hij]
      by_cases h1 : i < j
      · rw [if_pos h1, if_pos (by omega)]
      · rw [if_neg h1, if_neg (by omega)]
theorem vblk_fill {W : World} {g : Nat} {t : TypeId} {T : List Nat} {j x : Nat} (q : Nat → Value) (h : Blk W g t ((vfill T j).map q).toArray) (hx : T.getD j 0 = x) : Blk (W.setCell ⟨g, j, none⟩ (q x)) g t ((vfill T (j + 1)).map q).toArray := by
  have h2 := h.set_ j (q x)
  have e : ((vfill T j).map q).toArray.setIfInBounds j (q x) = ((vfill T (j + 1)).map q).toArray := by
    apply Array.toList_inj.1
    rw [Array.toList_setIfInBounds, ← vfill_set T j x hx, List.map_set]
  rwa [e] at h2
end Go.Proofs.YtegojdblaanclaaDoor
/- Arrays in memory, a block known whole, texts and bytes: what several stages share. Nothing of any function. -/
namespace Go.Proofs.YtegojdblaanclaaDoor
open Go.RowKit

theorem size_of (s : List UInt8) : (⟨s.toArray⟩ : ByteArray).size = s.length := by simp [ByteArray.size]
theorem one_byte (b : UInt8) (W : World) : (convert 73 9 (.slice (some ⟨W.heap.size, 0, none⟩) 1 1)).run Tryd.prog (W.alloc (.cells #[.int .u8 (b.toNat : Int)] 5)) = .ok (.string ⟨[b].toArray⟩) (W.alloc (.cells #[.int .u8 (b.toNat : Int)] 5)) :=
  run_convert_bytes_back (P := Tryd.prog) (W.alloc (.cells #[.int .u8 (b.toNat : Int)] 5)) 73 9 5 ⟨W.heap.size, 0, none⟩ 1 [b] Tryd.underlying73 Tryd.underlying5 Tryd.underlying9 (fun j hj => by
    obtain rfl : j = 0 := by simpa using hj
    simp [Addr.add])

theorem byte_at (l : List UInt8) (k : Nat) (h : k < l.length) : (⟨l.toArray⟩ : ByteArray)[k]'(by simpa [ByteArray.size] using h) = l.getD k 0 := by
  have : (⟨l.toArray⟩ : ByteArray)[k]'(by simpa [ByteArray.size] using h) = l[k] := rfl
  rw [this]; simp [List.getD, h]

theorem index_is (S : ByteArray) (i : Nat) (k : Int) (b : UInt8) (hk : (i : Int) = k) (h : S[i]? = some b) (W : World) : (Instr.index 9 (.string S) (.int .i64 k)).run Tryd.prog W = .ok (.int .u8 (b.toNat : Int)) W := by
  subst hk
  have hlt : i < S.size := by
    rcases Nat.lt_or_ge i S.size with h' | h'
    · exact h'
    · rw [getElem?_neg _ _ (by omega)] at h; cases h
  have hb : S[i] = b := by rw [getElem?_pos S i hlt] at h; exact Option.some.inj h
  rw [run_index_string (h := Tryd.underlying9), dif_pos ⟨by omega, by omega⟩]
  simp [hb]

theorem xor_byte (a c : UInt8) : bits .xor .u8 (a.toNat : Int) (c.toNat : Int) = ((a ^^^ c).toNat : Int) := by
  have ha := a.toNat_lt
  have hc := c.toNat_lt
  rw [u8_xor_nat _ _ (by omega) (by omega), UInt8.toNat_xor]

theorem at_get (l : List UInt8) (k : Nat) (h : k < l.length) : (⟨l.toArray⟩ : ByteArray)[k]? = some (l.getD k 0) := by
  have hs : k < (⟨l.toArray⟩ : ByteArray).size := by simpa [ByteArray.size] using h
  rw [getElem?_pos (⟨l.toArray⟩ : ByteArray) k hs, byte_at l k h]
theorem setCells_blk {w : World} {g : Nat} {t : TypeId} (l : List Value) : ∀ (o : Nat) (cs : Array Value), Blk w g t cs → ∀ A : List Value, A.length = o → ∀ C : List Value, C.length = l.length → cs = (A ++ C).toArray → Blk (w.setCells g o l) g t (A ++ l).toArray := by
  induction l generalizing w with
  | nil =>
    intro o cs h A hA C hC e
    have : C = [] := List.eq_nil_of_length_eq_zero hC
    subst this
    subst e
    exact h
  | cons v l ih =>
    intro o cs h A hA C hC e
    obtain ⟨c, C', rfl⟩ : ∃ c C', C = c :: C' := by
      cases C with
      | nil => simp at hC
      | cons c C' => exact ⟨c, C', rfl⟩
    have h2 := h.set_ o v
    have e2 : cs.setIfInBounds o v = (A ++ [v] ++ C').toArray := by
      subst e hA
      simp
    have := ih (o + 1) _ h2 (A ++ [v]) (by simp [hA]) C' (by simpa using hC) e2
    simpa [World.setCells] using this
theorem Blk.whole {w : World} {g : Nat} {t : TypeId} {cs : Array Value} (h : Blk w g t cs) (l : List Value) (hl : l.length = cs.size) : Blk (w.setCells g 0 l) g t l.toArray := by
  have := setCells_blk l 0 cs h [] rfl cs.toList (by simp [hl]) (by simp)
  simpa using this
theorem setCells_heap (l : List Value) : ∀ (w : World) (g o k : Nat), k ≠ g → (w.setCells g o l).heap[k]? = w.heap[k]? := by
  induction l with
  | nil => intro w g o k _; rfl
  | cons v l ih => intro w g o k hk; rw [World.setCells, ih _ _ _ _ hk]; exact Below.heap_setCell w ⟨g, o, none⟩ v k hk
theorem Blk.far_ {w : World} {g k : Nat} {t : TypeId} {cs : Array Value} (h : Blk w k t cs) (hk : k ≠ g) (o : Nat) (l : List Value) : Blk (w.setCells g o l) k t cs := (setCells_heap l w g o k hk).trans h
theorem below_setCells {B g : Nat} (hg : B ≤ g) (l : List Value) : ∀ (o : Nat) (w w1 : World), Below B w w1 → Below B w (w1.setCells g o l) := by
  induction l with
  | nil => intro o w w1 h; exact h
  | cons v l ih => intro o w w1 h; exact ih (o + 1) w _ (h.setCell (p := ⟨g, o, none⟩) hg v)
theorem bw {w w1 : World} (h : Below w.heap.size w w1) {g : Nat} (hg : w.heap.size ≤ g) (o : Nat) (l : List Value) : Below w.heap.size w (w1.setCells g o l) := below_setCells hg l o w w1 h
theorem Blk.there {w : World} {g : Nat} {t : TypeId} {cs : Array Value} (h : Blk w g t cs) {n : Nat} (hn : n ≤ cs.size) : w.there g 0 n := fun j hj => by
  rw [Nat.zero_add]
  refine ⟨?_, h.frozen j⟩
  rw [h.cell j]
  have : j < cs.size := by omega
  simp [this]
@[simp] theorem size_setCells (l : List Value) : ∀ (w : World) (g o : Nat), (w.setCells g o l).heap.size = w.heap.size := by
  induction l with
  | nil => intro w g o; rfl
  | cons v l ih => intro w g o; rw [World.setCells, ih]; simp [World.setCell]
theorem heap_alloc_new' (W : World) (o : Obj) {n : Nat} (h : W.heap.size = n) : (W.alloc o).heap[n]? = some o := by subst h; exact heap_alloc_new W o
theorem news_new (W : World) (l : List Value) (t : TypeId) (j : Nat) (u : Value) (hj : l[j]? = some u) : (W.alloc (.cells l.toArray t)).cell? ((⟨W.heap.size, 0, none⟩ : Addr).add j) = some u := by
  rw [Addr.add_mid, Nat.zero_add, cell_of_row _ _ _ _ _ _ (heap_alloc_new W _)]
  simpa using hj
theorem own_alloc {W : World} {base : Nat} {e : TypeId} {size : Nat} {v : Value} {n : Nat} {xs : List Value} (h : W.ownsRow base e size v n xs) (o : Obj) : (W.alloc o).ownsRow base e size v n xs := by
  obtain ⟨h1, h2⟩ := h
  refine ⟨h1, ?_⟩
  rcases h2 with h2 | ⟨g, cap, cur, hv, hg, hh, r⟩
  · exact Or.inl h2
  · exact Or.inr ⟨g, cap, cur, hv, hg, (Below.heap_alloc W o g (Array.getElem?_eq_some_iff.1 hh).1).trans hh, r⟩
theorem own_text {W : World} {base g c n : Nat} {l : List UInt8} (h : W.ownsRow base 5 1 (.slice (some ⟨g, 0, none⟩) n c) n (Lib.byteCells l)) (hn : l.length = n) : (convert 73 9 (.slice (some ⟨g, 0, none⟩) n c)).run Tryd.prog W = .ok (.string ⟨l.toArray⟩) W := by
  subst hn
  refine run_convert_bytes_back (P := Tryd.prog) W 73 9 5 ⟨g, 0, none⟩ c l Tryd.underlying73 Tryd.underlying5 Tryd.underlying9 (fun j hj => ?_)
  rw [Addr.add_mid, Nat.zero_add, h.cellAt j (by simpa using hj)]
  simp [Lib.byteCells, hj]
theorem bdn' {B : Nat} {a w : World} (h : Below B a w) (n : Nat) : Below B a (w.drewN n) := ⟨h.os, h.tape, h.output, h.size, h.block⟩
theorem drewN_name (w : World) (n : Nat) : ∃ w1, w.drewN n = w1 := ⟨_, rfl⟩
theorem own_nil {w : World} {base g : Nat} {E : TypeId} {z : Nat} (h : w.heap[g]? = some (.cells #[] E (0, 0))) (hb : base ≤ g) : w.ownsRow base E z (.slice (some ⟨g, 0, none⟩) 0 0) 0 [] :=
  ⟨by simp, .inr ⟨g, 0, #[], rfl, hb, h, Nat.le_refl _, Nat.zero_le _, by simp, by simp⟩⟩
theorem info5 : (Tryd.prog.info? 5).map (fun i => (i.zero, i.size, i.bytes)) = some (some (.int .u8 0), 1, 1) := by kernel_rfl
end Go.Proofs.YtegojdblaanclaaDoor
/- Rows of items, and of hops, in memory. Nothing of any function. -/
namespace Go.Proofs.YtegojdblaanclaaDoor
open Go.RowKit

/-- An item, and a hop. -/
abbrev ItL := Nat × List UInt8
abbrev HopL := Nat × Nat
/-- The cells of a row of them. -/
def icells (L : List ItL) : List Value := L.flatMap fun p => [vu p.1, sv p.2]
def hcells (L : List HopL) : List Value := L.flatMap fun p => [vi p.1, vi p.2]
theorem icells_len (L : List ItL) : (icells L).length = L.length * 2 := by
  induction L with
  | nil => rfl
  | cons p L ih => simp only [icells, List.flatMap_cons, List.length_append, List.length_cons, List.length_nil] at ih ⊢; omega
theorem hcells_len (L : List HopL) : (hcells L).length = L.length * 2 := by
  induction L with
  | nil => rfl
  | cons p L ih => simp only [hcells, List.flatMap_cons, List.length_append, List.length_cons, List.length_nil] at ih ⊢; omega
theorem icells_more (L M : List ItL) : icells (L ++ M) = icells L ++ icells M := by simp [icells]
theorem hcells_more (L M : List HopL) : hcells (L ++ M) = hcells L ++ hcells M := by simp [hcells]
theorem icells_two (L : List ItL) : ∀ k, k < L.length → (icells L)[k * 2]? = some (vu (L.getD k (0, [])).1) ∧ (icells L)[k * 2 + 1]? = some (sv (L.getD k (0, [])).2) := by
  induction L with
  | nil => intro k h; cases h
  | cons p L ih =>
    intro k h
    cases k with
    | zero => exact ⟨rfl, rfl⟩
    | succ k =>
      have := ih k (by simpa using h)
      rw [Nat.succ_mul]
      exact this
theorem hcells_two (L : List HopL) : ∀ k, k < L.length → (hcells L)[k * 2]? = some (vi (L.getD k (0, 0)).1) ∧ (hcells L)[k * 2 + 1]? = some (vi (L.getD k (0, 0)).2) := by
  induction L with
  | nil => intro k h; cases h
  | cons p L ih =>
    intro k h
    cases k with
    | zero => exact ⟨rfl, rfl⟩
    | succ k =>
      have := ih k (by simpa using h)
      rw [Nat.succ_mul]
      exact this
theorem icells_one (L : List ItL) : ∀ u ∈ icells L, u.oneCell' = true := by
  intro u hu
  simp only [icells, List.mem_flatMap] at hu
  obtain ⟨x, _, hx⟩ := hu
  simp at hx
  rcases hx with rfl | rfl <;> rfl
theorem hcells_one (L : List HopL) : ∀ u ∈ hcells L, u.oneCell' = true := by
  intro u hu
  simp only [hcells, List.mem_flatMap] at hu
  obtain ⟨x, _, hx⟩ := hu
  simp at hx
  rcases hx with rfl | rfl <;> rfl

/-- A row of items that can be read: where it lies, if it has any. -/
def IR (w : World) (A : Option Addr) (L : List ItL) : Prop :=
  ∀ j, j < L.length → ∃ g off, A = some ⟨g, off, none⟩ ∧ w.cell? ⟨g, off + j * 2, none⟩ = some (vu (L.getD j (0, [])).1) ∧ w.cell? ⟨g, off + j * 2 + 1, none⟩ = some (sv (L.getD j (0, [])).2)
/-- .. and one of hops. -/
def OR (w : World) (A : Option Addr) (L : List HopL) : Prop :=
  ∀ j, j < L.length → ∃ g off, A = some ⟨g, off, none⟩ ∧ w.cell? ⟨g, off + j * 2, none⟩ = some (vi (L.getD j (0, 0)).1) ∧ w.cell? ⟨g, off + j * 2 + 1, none⟩ = some (vi (L.getD j (0, 0)).2)
section
variable {w w' : World} {A : Option Addr} {L : List ItL}
theorem IR.later (h : IR w A L) (hb : Below w.heap.size w w') : IR w' A L := fun j hj => by
  obtain ⟨g, off, e, h0, h1⟩ := h j hj
  exact ⟨g, off, e, cell_later hb h0, cell_later hb h1⟩
theorem IR.nil (w : World) (A : Option Addr) : IR w A [] := fun j hj => absurd hj (by simp)
theorem IR.none (h : IR w none L) : L = [] := by
  cases L with
  | nil => rfl
  | cons x r => obtain ⟨g, off, e, _⟩ := h 0 (by simp); cases e
theorem IR.take (h : IR w A L) (m : Nat) : IR w A (L.take m) := fun j hj => by
  rw [List.length_take] at hj
  obtain ⟨g, off, e, h0, h1⟩ := h j (by omega)
  exact ⟨g, off, e, by rw [getD_take _ _ _ _ (by omega)]; exact h0, by rw [getD_take _ _ _ _ (by omega)]; exact h1⟩
theorem IR.drop {g off : Nat} (h : IR w (some ⟨g, off, Option.none⟩) L) (m : Nat) : IR w (some ⟨g, off + m * 2, Option.none⟩) (L.drop m) := fun j hj => by
  rw [List.length_drop] at hj
  obtain ⟨g', off', e, h0, h1⟩ := h (m + j) (by omega)
  obtain ⟨rfl, rfl⟩ : g = g' ∧ off = off' := by injection e with e; injection e with e1 e2; exact ⟨e1, e2⟩
  rw [Nat.add_mul, ← Nat.add_assoc] at h0 h1
  exact ⟨g, off + m * 2, rfl, by rw [getD_drop]; exact h0, by rw [getD_drop]; exact h1⟩
/-- .. and as cells. -/
theorem IR.cells {a : Addr} (h : IR w (some a) L) : ∀ j u, (icells L)[j]? = some u → w.cell? (a.add j) = some u := by
  intro j u hu
  have hj : j < (icells L).length := (List.getElem?_eq_some_iff.1 hu).1
  rw [icells_len] at hj
  obtain ⟨g, off, e, h0, h1⟩ := h (j / 2) (by omega)
  obtain rfl : a = ⟨g, off, Option.none⟩ := Option.some.inj e
  obtain ⟨p0, p1⟩ := icells_two L (j / 2) (by omega)
  rw [Go.WideShapes.add_plain]
  rcases (show j = j / 2 * 2 ∨ j = j / 2 * 2 + 1 by omega) with hj2 | hj2
  · rw [← hj2] at p0 h0
    rw [h0, ← p0, hu]
  · rw [← hj2] at p1
    rw [Nat.add_assoc, ← hj2] at h1
    rw [h1, ← p1, hu]
end
theorem OR.later {w w' : World} {A : Option Addr} {L : List HopL} (h : OR w A L) (hb : Below w.heap.size w w') : OR w' A L := fun j hj => by
  obtain ⟨g, off, e, h0, h1⟩ := h j hj
  exact ⟨g, off, e, cell_later hb h0, cell_later hb h1⟩
theorem OR.nil (w : World) (A : Option Addr) : OR w A [] := fun j hj => absurd hj (by simp)
theorem own_IR {W : World} {base : Nat} {A : Option Addr} {n c : Nat} {L : List ItL} (h : W.ownsRow base 25 2 (.slice A n c) n (icells L)) (hl : L.length = n) : IR W A L := by
  obtain ⟨A', c', e, hh⟩ := own_form h
  injection e with e1 e2 e3
  subst e1
  subst e3
  rcases hh with ⟨rfl, rfl, rfl⟩ | ⟨g, rfl, _⟩
  · obtain rfl : L = [] := List.eq_nil_of_length_eq_zero hl
    exact IR.nil _ _
  · intro j hj
    obtain ⟨p0, p1⟩ := icells_two L j hj
    exact ⟨g, 0, rfl, by rw [Nat.zero_add, h.cellAt (j * 2) (by omega), p0], by rw [Nat.zero_add, h.cellAt (j * 2 + 1) (by omega), p1]⟩
theorem own_OR {W : World} {base : Nat} {A : Option Addr} {n c : Nat} {L : List HopL} (h : W.ownsRow base 45 2 (.slice A n c) n (hcells L)) (hl : L.length = n) : OR W A L := by
  obtain ⟨A', c', e, hh⟩ := own_form h
  injection e with e1 e2 e3
  subst e1
  subst e3
  rcases hh with ⟨rfl, rfl, rfl⟩ | ⟨g, rfl, _⟩
  · obtain rfl : L = [] := List.eq_nil_of_length_eq_zero hl
    exact OR.nil _ _
  · intro j hj
    obtain ⟨p0, p1⟩ := hcells_two L j hj
    exact ⟨g, 0, rfl, by rw [Nat.zero_add, h.cellAt (j * 2) (by omega), p0], by rw [Nat.zero_add, h.cellAt (j * 2 + 1) (by omega), p1]⟩
theorem blk_IR {W : World} {g : Nat} {t : TypeId} {L : List ItL} (h : Blk W g t (icells L).toArray) : IR W (some ⟨g, 0, none⟩) L := fun j hj => by
  obtain ⟨p0, p1⟩ := icells_two L j hj
  exact ⟨g, 0, rfl, by rw [Nat.zero_add, h.cell, List.getElem?_toArray, p0], by rw [Nat.zero_add, h.cell, List.getElem?_toArray, p1]⟩
theorem infoI : (Tryd.prog.info? 25).map (fun i => (i.zero, i.size, i.bytes)) = some (some (.agg #[.int .u64 0, .string ⟨#[]⟩]), 2, 24) := by kernel_rfl
theorem infoO : (Tryd.prog.info? 45).map (fun i => (i.zero, i.size, i.bytes)) = some (some (.agg #[.int .i64 0, .int .i64 0]), 2, 16) := by kernel_rfl

/-- A row cut to its beginning, to nothing without room, and from a place on. -/
theorem icut_run (A : Option Addr) (len cap m : Nat) (hm : m ≤ cap) (W : World) : (Instr.slice 22 (.slice A len cap) none (some (.int .i64 (m : Int))) none).run Tryd.prog W = .ok (.slice A m cap) W := by
  obtain ⟨i, hi⟩ : ∃ i, Tryd.prog.info? 25 = some i := Option.isSome_iff_exists.1 (by kernel_rfl)
  have hb : (Instr.sliceBounds true len cap none (some (.int .i64 (m : Int))) none).run Tryd.prog W = .ok (0, m, cap) W := by
    have h1 : (0 : Int) ≤ (m : Int) ∧ (m : Int) ≤ (cap : Int) := by omega
    simp [Instr.sliceBounds, Instr.sliceBound, asIntOf, h1]
    omega
  have hA : (if cap = 0 then A else A.map fun x => x.add (0 * i.size)) = A := by
    split
    · rfl
    · cases A <;> simp [Addr.add]
  simp [Instr.slice, run_underlying (P := Tryd.prog) (w := W) Tryd.underlying22, hb, sizeOf, typeInfo, hi]
  simpa using hA
theorem icut0_run (A : Option Addr) (len cap : Nat) (W : World) : (Instr.slice 22 (.slice A len cap) none (some (.int .i64 0)) (some (.int .i64 0))).run Tryd.prog W = .ok (.slice A 0 0) W := by
  obtain ⟨i, hi⟩ : ∃ i, Tryd.prog.info? 25 = some i := Option.isSome_iff_exists.1 (by kernel_rfl)
  have hb : (Instr.sliceBounds true len cap none (some (.int .i64 0)) (some (.int .i64 0))).run Tryd.prog W = .ok (0, 0, 0) W := by
    have h1 : (0 : Int) ≤ (cap : Int) := by omega
    simp [Instr.sliceBounds, Instr.sliceBound, asIntOf, h1]
  simp [Instr.slice, run_underlying (P := Tryd.prog) (w := W) Tryd.underlying22, hb, sizeOf, typeInfo, hi]
set_option maxRecDepth 100000 in
theorem ifrom_run (A : Option Addr) (L : List ItL) (n c k : Nat) (hl : L.length = n) (hk : k ≤ n) (hc : n ≤ c) :
    ∃ A' : Option Addr, (∀ W : World, (Instr.slice 22 (.slice A n c) (some (.int .i64 (k : Int))) none none).run Tryd.prog W = .ok (.slice A' (n - k) (c - k)) W) ∧ ∀ W, IR W A L → IR W A' (L.drop k) := by
  refine ⟨if c = k then A else A.map (·.add (k * 2)), fun W => ?_, fun W h => ?_⟩
  · rw [run_slice_l (P := Tryd.prog) W _ _ _ _ Tryd.underlying22 .i64 (k : Int) (by omega) (by omega)]
    go_simp
  · by_cases hkn : k = n
    · subst hkn
      rw [List.drop_of_length_le (by omega)]
      exact IR.nil _ _
    · obtain ⟨g, off, rfl, _⟩ := h k (by omega)
      rw [if_neg (by omega)]
      simp only [Option.map_some]
      have := h.drop k
      rw [show (⟨g, off, none⟩ : Addr).add (k * 2) = ⟨g, off + k * 2, none⟩ from Go.WideShapes.add_plain _ _ _]
      exact this

/-- A row that the call made, or one of nothing without room. -/
def IF (W : World) (base : Nat) (v : Value) (n : Nat) (X : List ItL) : Prop :=
  (∃ A, v = .slice A 0 0 ∧ n = 0 ∧ X = []) ∨ W.ownsRow base 25 2 v n (icells X)
theorem IF.form {W : World} {base : Nat} {v : Value} {n : Nat} {X : List ItL} (h : IF W base v n X) : ∃ A c, v = .slice A n c ∧ n ≤ c ∧ (X.length = n) := by
  rcases h with ⟨A, rfl, rfl, rfl⟩ | h
  · exact ⟨A, 0, rfl, Nat.le_refl _, rfl⟩
  · have hl : X.length = n := by have := h.1; rw [icells_len] at this; omega
    obtain ⟨A', c', e, hh⟩ := own_form h
    refine ⟨A', c', e, ?_, hl⟩
    rcases hh with ⟨_, h1, h2⟩ | ⟨_, _, h1, _⟩ <;> omega
theorem IF.read {W : World} {base : Nat} {A : Option Addr} {n c : Nat} {X : List ItL} (h : IF W base (.slice A n c) n X) : IR W A X := by
  rcases h with ⟨B, e, rfl, rfl⟩ | h
  · exact IR.nil _ _
  · exact own_IR h (by have := h.1; rw [icells_len] at this; omega)
theorem iappend_none (W : World) (ty : TypeId) (A B : Option Addr) (n c d : Nat) (h : n ≤ c) :
    (Builtin.append_ #[22, 22] ty #[.slice A n c, .slice B 0 d]).run Tryd.prog W = .ok (.slice A n c) W := by
  obtain ⟨ti, hi0, hz0, hz1, hz2⟩ := info_parts infoI
  cases A <;> cases B <;> simp [Builtin.append_, run_underlying Tryd.underlying22, sizeOf, typeInfo, hi0, h, Builtin.lenOf, Builtin.firstCells, loadCells, loadCellsFrom, storeCells]
set_option maxRecDepth 100000 in
/-- A row that can be read, appended to such. -/
theorem iappend_row {W : World} {base n c d m : Nat} {A B : Option Addr} {X Y : List ItL} (ho : IF W base (.slice A n c) n Y) (hs : IR W B X) (hm : X.length = m) (hn : n + m ≤ 65536) (hb : base ≤ W.heap.size) :
    ∃ A' c' W', (Builtin.append_ #[22, 22] 22 #[.slice A n c, .slice B m d]).run Tryd.prog W = .ok (.slice A' (n + m) c') W' ∧ IF W' base (.slice A' (n + m) c') (n + m) (Y ++ X) ∧ Below base W W' := by
  obtain ⟨ti, hi0, hz0, hz1, hz2⟩ := info_parts infoI
  by_cases h0 : X = []
  · subst h0
    obtain rfl : m = 0 := by rw [← hm]; rfl
    obtain ⟨A', c', e, hnc, _⟩ := ho.form
    injection e with _ _ e3
    subst e3
    exact ⟨A, c, W, iappend_none W _ A B n c d hnc, by simpa using ho, Below.refl _ _⟩
  · have hpos : 0 < X.length := List.length_pos_iff.2 h0
    obtain ⟨g, off, rfl, _⟩ := hs 0 hpos
    rcases ho with ⟨A1, e, rfl, rfl⟩ | ho
    · injection e with e1 _ e3
      subst e1
      subst e3
      have hown0 : W.ownsRow base 25 2 (.slice none 0 0) 0 [] := World.ownsRow_nil _ _ _ _
      have hnx : ((icells X).length = m * 2) := by rw [icells_len, hm]
      obtain ⟨v', w', hr, h2, h3, _⟩ := run_append_own (P := Tryd.prog) (ty := 22) W base 22 25 ti (.agg #[.int .u64 0, .string ⟨#[]⟩]) 2 24 Tryd.underlying22 hi0 hz0 hz1 hz2 rfl (by decide) (.slice none 0 0) 0 [] hown0 ⟨g, off, none⟩ m d (icells X) hnx hs.cells (icells_one X) (by unfold maxLen; omega) (by omega) hb
      obtain ⟨A', c', rfl, _⟩ := own_form h2
      refine ⟨A', c', w', ?_, .inr (by simpa using h2), (Below.refl _ _).grown h3 hb (fun k e => (hown0.lt k e).1)⟩
      cases A with
      | none => exact hr
      | some b =>
        rw [Nat.zero_add] at hr ⊢
        rw [← hr, run_append_nil (P := Tryd.prog) W 22 22 25 ti _ Tryd.underlying22 hi0 hz0 ⟨g, off, none⟩ m d (icells X) (by rw [hz1]; exact hnx) hs.cells (by omega) (by omega) (by rw [hz2]; omega)]
        have h9 := run_append_grow (P := Tryd.prog) W 22 22 25 ti _ Tryd.underlying22 hi0 hz0 b 0 0 [] (by simp) (by simp) ⟨g, off, none⟩ m d (icells X) (by rw [hz1]; exact hnx) hs.cells (by omega) (by omega) (by rw [Nat.zero_add, hz2]; have := nextslicecap_zero (show 0 < m by omega); rw [this]; omega)
        rw [h9]
        simp only [Nat.zero_add]
        simp
    · obtain ⟨v', w', hr, h2, h3, h4⟩ := run_append_own (P := Tryd.prog) W base 22 22 25 ti (.agg #[.int .u64 0, .string ⟨#[]⟩]) 2 24 Tryd.underlying22 hi0 hz0 hz1 hz2 rfl (by decide) (.slice A n c) n (icells Y) ho ⟨g, off, none⟩ m d (icells X) (by rw [icells_len, hm]) hs.cells (icells_one X) (by unfold maxLen; omega) (by omega) hb
      obtain ⟨A', c', rfl, _⟩ := own_form h2
      exact ⟨A', c', w', hr, .inr (by rw [icells_more]; exact h2), (Below.refl _ _).grown h3 hb (fun k e => (ho.lt k e).1)⟩
end Go.Proofs.YtegojdblaanclaaDoor
