/- Words for memory: cells, blocks that are known whole, and what stays as it was. Nothing of any function. -/
import Derived.Test.YtnehodipblabbaaRows
import Derived.WalkKit
import Derived.WalkSpells
import Derived.WalkLawsBesides
import Derived.BigQuiet
import Derived.Deep.QuietTactic
import Derived.RegionTactic
import Derived.ChangeAlike
import Derived.Lib.Hide
import Derived.Laws.IdiomStrings
import Derived.Laws.Rows
import Derived.Deep.Draws
import Derived.Deep.RegionHeld3
import Derived.Deep.DrawnRows
namespace Go.Proofs.Ytnehodipblabbaa
open Go.RowKit

theorem size_mk (s : List UInt8) : (⟨s.toArray⟩ : ByteArray).size = s.length := by simp [ByteArray.size]
theorem get_mk (s : List UInt8) (k : Nat) (h' : k < (⟨s.toArray⟩ : ByteArray).size) : (⟨s.toArray⟩ : ByteArray)[k]'h' = s[k]'(by rw [size_mk] at h'; exact h') := by
  simp [ByteArray.getElem_eq_getElem_data]
theorem bcell {W w1 : World} (hb : Below W.heap.size W w1) : (∀ b o, b < W.heap.size → w1.cell? ⟨b, o, none⟩ = W.cell? ⟨b, o, none⟩) ∧ (∀ b o, b < W.heap.size → w1.frozen? ⟨b, o, none⟩ = W.frozen? ⟨b, o, none⟩) :=
  ⟨fun b o h => hb.cell (p := ⟨b, o, none⟩) h, fun b o h => hb.frozen (p := ⟨b, o, none⟩) h⟩

theorem ba {w w1 : World} (h : Below w.heap.size w w1) (o : Obj) : Below w.heap.size w (w1.alloc o) := h.alloc h.size o
theorem bt {w w1 w2 : World} (h : Below w.heap.size w w1) (h2 : Below w1.heap.size w1 w2) : Below w.heap.size w w2 := h.trans (h2.mono h.size)
theorem bs {w w1 : World} (h : Below w.heap.size w w1) {b o : Nat} (hp : w.heap.size ≤ b) (v : Value) : Below w.heap.size w (w1.setCell ⟨b, o, none⟩ v) := h.setCell (p := ⟨b, o, none⟩) hp v

/-- A cell that can be read and written. -/
def At (W : World) (b o : Nat) (v : Value) : Prop := W.cell? ⟨b, o, none⟩ = some v ∧ W.frozen? ⟨b, o, none⟩ = false
theorem At.lt {W : World} {b o : Nat} {v : Value} (h : At W b o v) : b < W.heap.size := World.block_lt_of_cell? _ _ h.1
theorem At.later {W w1 : World} {b o : Nat} {v : Value} (h : At W b o v) (hb : Below W.heap.size W w1) : At w1 b o v :=
  ⟨cell_later hb h.1, (hb.frozen (p := ⟨b, o, none⟩) h.lt).trans h.2⟩
theorem At.alloc {W : World} {b o : Nat} {v : Value} (h : At W b o v) (ob : Obj) : At (W.alloc ob) b o v := h.later ((Below.refl _ _).alloc (Nat.le_refl _) ob)
theorem At.drew {W : World} {b o : Nat} {v : Value} (h : At W b o v) : At W.drew b o v := h
theorem At.drewN {W : World} {b o : Nat} {v : Value} (h : At W b o v) (n : Nat) : At (W.drewN n) b o v := h
theorem At.new (W : World) (x : Array Value) (t : TypeId) {o : Nat} {v : Value} (h : x[o]? = some v) : At (W.alloc (.cells x t)) W.heap.size o v := by
  constructor
  · simp [h]
  · go_simp

/-- A block that is known whole. -/
def Blk (w : World) (g : Nat) (t : TypeId) (cs : Array Value) : Prop := w.heap[g]? = some (.cells cs t (0, 0))
section
variable {w w' : World} {g : Nat} {t : TypeId} {cs : Array Value}
theorem Blk.lt (h : Blk w g t cs) : g < w.heap.size := by
  rcases Nat.lt_or_ge g w.heap.size with hlt | hge
  · exact hlt
  · unfold Blk at h; rw [Array.getElem?_eq_none hge] at h; cases h
theorem Blk.cell (h : Blk w g t cs) (i : Nat) : w.cell? ⟨g, i, none⟩ = cs[i]? := cell_of_row w g i cs t (0, 0) h
theorem Blk.frozen (h : Blk w g t cs) (i : Nat) : w.frozen? ⟨g, i, none⟩ = false := by
  unfold Blk at h
  simp [World.frozen?, h]
theorem Blk.at_ (h : Blk w g t cs) {i : Nat} {v : Value} (hv : cs[i]? = some v) : At w g i v := ⟨(h.cell i).trans hv, h.frozen i⟩
theorem Blk.new (w : World) (t : TypeId) (cs : Array Value) : Blk (w.alloc (.cells cs t)) w.heap.size t cs := heap_alloc_new w _
theorem Blk.newAt {w : World} {g : Nat} (h : w.heap.size = g) (t : TypeId) (cs : Array Value) : Blk (w.alloc (.cells cs t)) g t cs := by subst h; exact Blk.new w t cs
theorem Blk.drew (h : Blk w g t cs) : Blk w.drew g t cs := h
theorem Blk.drewN (h : Blk w g t cs) (n : Nat) : Blk (w.drewN n) g t cs := h
theorem Blk.alloc (h : Blk w g t cs) (o : Obj) : Blk (w.alloc o) g t cs := (Below.heap_alloc w o g h.lt).trans h
theorem Blk.set_ (h : Blk w g t cs) (i : Nat) (u : Value) : Blk (w.setCell ⟨g, i, none⟩ u) g t (cs.setIfInBounds i u) := by
  unfold Blk at h ⊢
  simp [World.setCell, Array.getElem?_modify, h]
theorem Blk.far (h : Blk w g t cs) {p : Addr} (hp : g ≠ p.block) (u : Value) : Blk (w.setCell p u) g t cs := (Below.heap_setCell w p u g hp).trans h
theorem Blk.below (h : Blk w g t cs) (hb : Below w.heap.size w w') : Blk w' g t cs := (hb.block g h.lt).trans h
theorem Blk.grown {row : Option Nat} (h : Blk w g t cs) (hb : w.grownBy w' row) (hg : some g ≠ row) : Blk w' g t cs := (hb.block g h.lt hg).trans h
end

/-- But for the blocks p and g what was there is as it was. -/
structure Off (p g : Nat) (w w' : World) : Prop where
  os : w'.os = w.os
  tape : w'.tape = w.tape
  output : w'.output = w.output
  size : w.heap.size ≤ w'.heap.size
  block : ∀ k, k < w.heap.size → k ≠ p → k ≠ g → w'.heap[k]? = w.heap[k]?
section
variable {p g : Nat} {a b w w' : World}
theorem Off.refl (p g : Nat) (w : World) : Off p g w w := ⟨rfl, rfl, rfl, Nat.le_refl _, fun _ _ _ _ => rfl⟩
theorem Off.trans (h : Off p g a b) (k : Off p g b w) : Off p g a w :=
  ⟨k.os.trans h.os, k.tape.trans h.tape, k.output.trans h.output, Nat.le_trans h.size k.size, fun i hi hp hg => (k.block i (Nat.lt_of_lt_of_le hi h.size) hp hg).trans (h.block i hi hp hg)⟩
theorem Off.drew (h : Off p g a w) : Off p g a w.drew := ⟨h.os, h.tape, h.output, h.size, h.block⟩
theorem Off.drewN (h : Off p g a w) (n : Nat) : Off p g a (w.drewN n) := ⟨h.os, h.tape, h.output, h.size, h.block⟩
theorem Off.alloc (h : Off p g a w) (o : Obj) : Off p g a (w.alloc o) :=
  h.trans ⟨rfl, rfl, rfl, by simp, fun k hk _ _ => Below.heap_alloc w o k hk⟩
theorem Off.setCell (h : Off p g a w) {q : Addr} (hq : q.block = p ∨ q.block = g) (v : Value) : Off p g a (w.setCell q v) :=
  h.trans ⟨rfl, rfl, rfl, by simp [World.setCell], fun k _ hp hg => Below.heap_setCell w q v k (by
    rintro rfl
    rcases hq with hq | hq
    · exact hp hq
    · exact hg hq)⟩
theorem Off.below_mid (h : Off p g a w) (hb : Below w.heap.size w w') : Off p g a w' :=
  h.trans ⟨hb.os, hb.tape, hb.output, hb.size, fun k hk _ _ => hb.block k hk⟩
theorem Off.below {B : Nat} (h : Off p g a w) (hp : B ≤ p) (hg : B ≤ g) (hB : B ≤ a.heap.size) : Below B a w :=
  ⟨h.os, h.tape, h.output, h.size, fun k hk => h.block k (by omega) (by omega) (by omega)⟩
theorem Off.blk (h : Off p g a w) {k : Nat} {t : TypeId} {cs : Array Value} (hk : Blk a k t cs) (hp : k ≠ p) (hg : k ≠ g) : Blk w k t cs := (h.block k hk.lt hp hg).trans hk
theorem Off.at_ (h : Off p g a w) {k o : Nat} {v : Value} (hk : At a k o v) (hp : k ≠ p) (hg : k ≠ g) : At w k o v :=
  ⟨(World.cell?_of_block (a := ⟨k, o, none⟩) (h.block k hk.lt hp hg)).trans hk.1, (World.frozen?_of_block (a := ⟨k, o, none⟩) (h.block k hk.lt hp hg)).trans hk.2⟩
end
end Go.Proofs.Ytnehodipblabbaa
