/- Texts of this seat, one behind the other: Mem, TSlot, CMath, FTab, FMath, Str, Base0. -/
import Derived.Test.YtcecjoodlmpgnaaRows
import Derived.WalkKit
import Derived.WalkSpells
import Derived.WalkLawsBesides
import Derived.BigQuiet
import Derived.Deep.QuietTactic
import Derived.RegionTactic
import Derived.ChangeAlike
import Derived.Lib.Hide
import Derived.Laws.IdiomStrings
import Derived.Laws.Rows
import Derived.Deep.Draws
import Derived.Deep.RegionHeld3
import Derived.Deep.DrawnRows
import Derived.Below
import GoSem.Op.String
import Derived.Laws.MakeOwn
import Derived.RangeFuncBox
import Derived.Laws.OwnMore
import Derived.Deep.AppendLies
import Derived.Laws.BitsLemmas
import Derived.Lib.Strings
import Derived.Sort.Walk0
import Derived.ProofKit
import Derived.Lib.SmallJoins
import Derived.Deep.Slices
import Derived.Deep.Fields
import Derived.ChangeSame
import Derived.ChangeMaps5
import Derived.ChangeArms
/- Words for memory: cells, blocks that are known whole, and what stays as it was. Nothing of any function. -/
namespace Go.Proofs.Ytcecjoodlmpgnaa
open Go.RowKit

theorem size_mk (s : List UInt8) : (⟨s.toArray⟩ : ByteArray).size = s.length := by simp [ByteArray.size]
theorem get_mk (s : List UInt8) (k : Nat) (h' : k < (⟨s.toArray⟩ : ByteArray).size) : (⟨s.toArray⟩ : ByteArray)[k]'h' = s[k]'(by rw [size_mk] at h'; exact h') := by
  simp [ByteArray.getElem_eq_getElem_data]
theorem bcell {W w1 : World} (hb : Below W.heap.size W w1) : (∀ b o, b < W.heap.size → w1.cell? ⟨b, o, none⟩ = W.cell? ⟨b, o, none⟩) ∧ (∀ b o, b < W.heap.size → w1.frozen? ⟨b, o, none⟩ = W.frozen? ⟨b, o, none⟩) :=
  ⟨fun b o h => hb.cell (p := ⟨b, o, none⟩) h, fun b o h => hb.frozen (p := ⟨b, o, none⟩) h⟩

theorem ba {w w1 : World} (h : Below w.heap.size w w1) (o : Obj) : Below w.heap.size w (w1.alloc o) := h.alloc h.size o
theorem bt {w w1 w2 : World} (h : Below w.heap.size w w1) (h2 : Below w1.heap.size w1 w2) : Below w.heap.size w w2 := h.trans (h2.mono h.size)
theorem bs {w w1 : World} (h : Below w.heap.size w w1) {b o : Nat} (hp : w.heap.size ≤ b) (v : Value) : Below w.heap.size w (w1.setCell ⟨b, o, none⟩ v) := h.setCell (p := ⟨b, o, none⟩) hp v

/-- A cell that can be read and written. -/
def At (W : World) (b o : Nat) (v : Value) : Prop := W.cell? ⟨b, o, none⟩ = some v ∧ W.frozen? ⟨b, o, none⟩ = false
theorem At.lt {W : World} {b o : Nat} {v : Value} (h : At W b o v) : b < W.heap.size := World.block_lt_of_cell? _ _ h.1
theorem At.later {W w1 : World} {b o : Nat} {v : Value} (h : At W b o v) (hb : Below W.heap.size W w1) : At w1 b o v :=
  ⟨cell_later hb h.1, (hb.frozen (p := ⟨b, o, none⟩) h.lt).trans h.2⟩
theorem At.alloc {W : World} {b o : Nat} {v : Value} (h : At W b o v) (ob : Obj) : At (W.alloc ob) b o v := h.later ((Below.refl _ _).alloc (Nat.le_refl _) ob)
theorem At.drew {W : World} {b o : Nat} {v : Value} (h : At W b o v) : At W.drew b o v := h
theorem At.drewN {W : World} {b o : Nat} {v : Value} (h : At W b o v) (n : Nat) : At (W.drewN n) b o v := h
theorem At.new (W : World) (x : Array Value) (t : TypeId) {o : Nat} {v : Value} (h : x[o]? = some v) : At (W.alloc (.cells x t)) W.heap.size o v := by
  constructor
  · simp [h]
  · go_simp

/-- A block that is known whole. -/
def Blk (w : World) (g : Nat) (t : TypeId) (cs : Array Value) : Prop := w.heap[g]? = some (.cells cs t (0, 0))
section
variable {w w' : World} {g : Nat} {t : TypeId} {cs : Array Value}
theorem Blk.lt (h : Blk w g t cs) : g < w.heap.size := by
  rcases Nat.lt_or_ge g w.heap.size with hlt | hge
  · exact hlt
  · unfold Blk at h; rw [Array.getElem?_eq_none hge] at h; cases h
theorem Blk.cell (h : Blk w g t cs) (i : Nat) : w.cell? ⟨g, i, none⟩ = cs[i]? := cell_of_row w g i cs t (0, 0) h
theorem Blk.frozen (h : Blk w g t cs) (i : Nat) : w.frozen? ⟨g, i, none⟩ = false := by
  unfold Blk at h
  simp [World.frozen?, h]
theorem Blk.at_ (h : Blk w g t cs) {i : Nat} {v : Value} (hv : cs[i]? = some v) : At w g i v := ⟨(h.cell i).trans hv, h.frozen i⟩
theorem Blk.new (w : World) (t : TypeId) (cs : Array Value) : Blk (w.alloc (.cells cs t)) w.heap.size t cs := heap_alloc_new w _
theorem Blk.newAt {w : World} {g : Nat} (h : w.heap.size = g) (t : TypeId) (cs : Array Value) : Blk (w.alloc (.cells cs t)) g t cs := by subst h; exact Blk.new w t cs
theorem Blk.drew (h : Blk w g t cs) : Blk w.drew g t cs := h
theorem Blk.drewN (h : Blk w g t cs) (n : Nat) : Blk (w.drewN n) g t cs := h
theorem Blk.alloc (h : Blk w g t cs) (o : Obj) : Blk (w.alloc o) g t cs := (Below.heap_alloc w o g h.lt).trans h
theorem Blk.set_ (h : Blk w g t cs) (i : Nat) (u : Value) : Blk (w.setCell ⟨g, i, none⟩ u) g t (cs.setIfInBounds i u) := by
  unfold Blk at h ⊢
  simp [World.setCell, Array.getElem?_modify, h]
theorem Blk.far (h : Blk w g t cs) {p : Addr} (hp : g ≠ p.block) (u : Value) : Blk (w.setCell p u) g t cs := (Below.heap_setCell w p u g hp).trans h
theorem Blk.below (h : Blk w g t cs) (hb : Below w.heap.size w w') : Blk w' g t cs := (hb.block g h.lt).trans h
theorem Blk.grown {row : Option Nat} (h : Blk w g t cs) (hb : w.grownBy w' row) (hg : some g ≠ row) : Blk w' g t cs := (hb.block g h.lt hg).trans h
end

/-- But for the blocks p and g what was there is as it was. -/
structure Off (p g : Nat) (w w' : World) : Prop where
  os : w'.os = w.os
  tape : w'.tape = w.tape
  output : w'.output = w.output
  size : w.heap.size ≤ w'.heap.size
  block : ∀ k, k < w.heap.size → k ≠ p → k ≠ g → w'.heap[k]? = w.heap[k]?
section
variable {p g : Nat} {a b w w' : World}
theorem Off.refl (p g : Nat) (w : World) : Off p g w w := ⟨rfl, rfl, rfl, Nat.le_refl _, fun _ _ _ _ => rfl⟩
theorem Off.trans (h : Off p g a b) (k : Off p g b w) : Off p g a w :=
  ⟨k.os.trans h.os, k.tape.trans h.tape, k.output.trans h.output, Nat.le_trans h.size k.size, fun i hi hp hg => (k.block i (Nat.lt_of_lt_of_le hi h.size) hp hg).trans (h.block i hi hp hg)⟩
theorem Off.drew (h : Off p g a w) : Off p g a w.drew := ⟨h.os, h.tape, h.output, h.size, h.block⟩
theorem Off.drewN (h : Off p g a w) (n : Nat) : Off p g a (w.drewN n) := ⟨h.os, h.tape, h.output, h.size, h.block⟩
theorem Off.alloc (h : Off p g a w) (o : Obj) : Off p g a (w.alloc o) :=
  h.trans ⟨rfl, rfl, rfl, by simp, fun k hk _ _ => Below.heap_alloc w o k hk⟩
theorem Off.setCell (h : Off p g a w) {q : Addr} (hq : q.block = p ∨ q.block = g) (v : Value) : Off p g a (w.setCell q v) :=
  h.trans ⟨rfl, rfl, rfl, by simp [World.setCell], fun k _ hp hg => Below.heap_setCell w q v k (by
    rintro rfl
    rcases hq with hq | hq
    · exact hp hq
    · exact hg hq)⟩
theorem Off.below_mid (h : Off p g a w) (hb : Below w.heap.size w w') : Off p g a w' :=
  h.trans ⟨hb.os, hb.tape, hb.output, hb.size, fun k hk _ _ => hb.block k hk⟩
theorem Off.below {B : Nat} (h : Off p g a w) (hp : B ≤ p) (hg : B ≤ g) (hB : B ≤ a.heap.size) : Below B a w :=
  ⟨h.os, h.tape, h.output, h.size, fun k hk => h.block k (by omega) (by omega) (by omega)⟩
theorem Off.blk (h : Off p g a w) {k : Nat} {t : TypeId} {cs : Array Value} (hk : Blk a k t cs) (hp : k ≠ p) (hg : k ≠ g) : Blk w k t cs := (h.block k hk.lt hp hg).trans hk
theorem Off.at_ (h : Off p g a w) {k o : Nat} {v : Value} (hk : At a k o v) (hp : k ≠ p) (hg : k ≠ g) : At w k o v :=
  ⟨(World.cell?_of_block (a := ⟨k, o, none⟩) (h.block k hk.lt hp hg)).trans hk.1, (World.frozen?_of_block (a := ⟨k, o, none⟩) (h.block k hk.lt hp hg)).trans hk.2⟩
end
end Go.Proofs.Ytcecjoodlmpgnaa
/- The contracts of isKey, mayBe and New, and of the reference's Key and Right. -/
namespace Go.Proofs.Ytcecjoodlmpgnaa
open Go.RowKit

/-- Is a text as long as a slot's key? -/
def keyB (k : List UInt8) : Bool := k.length == 16 || k.length == 32
/-- May a slot be? -/
def mayB (b : Nat) (k : List UInt8) : Bool := keyB k && decide (b ≤ 4294967295)
/-- A slot. -/
abbrev tv (n b : Nat) (k : List UInt8) : Value := .agg #[.int .u64 (n : Int), .int .u64 (b : Int), .string ⟨k.toArray⟩]

theorem tcells {W : World} {g : Nat} {t : TypeId} {x y z : Value} (h : Blk W g t #[x, y, z]) :
    (W.cell? ⟨g, 0, none⟩ = some x ∧ W.cell? ⟨g, 1, none⟩ = some y ∧ W.cell? ⟨g, 2, none⟩ = some z) ∧ W.frozen? ⟨g, 0, none⟩ = false ∧ W.frozen? ⟨g, 1, none⟩ = false ∧ W.frozen? ⟨g, 2, none⟩ = false :=
  ⟨⟨h.cell 0, h.cell 1, h.cell 2⟩, h.frozen 0, h.frozen 1, h.frozen 2⟩
end Go.Proofs.Ytcecjoodlmpgnaa
/- Numbers' bytes, in plain lists: nothing of the program. -/
namespace Go.Proofs.Ytcecjoodlmpgnaa

/-- A number's lowest bytes, the lowest first. -/
def low : Nat → Nat → List UInt8
  | _, 0 => []
  | n, k + 1 => UInt8.ofNat (n % 256) :: low (n / 256) k
/-- The number that bytes tell. -/
def val : List UInt8 → Nat
  | [] => 0
  | b :: l => b.toNat + 256 * val l

theorem low_length (n k : Nat) : (low n k).length = k := by
  induction k generalizing n with
  | zero => rfl
  | succ k ih => simp [low, ih]
theorem ofNat_toNat_mod (n : Nat) : (UInt8.ofNat (n % 256)).toNat = n % 256 := by
  simp
theorem val_low (n k : Nat) : val (low n k) = n % 256 ^ k := by
  induction k generalizing n with
  | zero => simp [low, val, Nat.mod_one]
  | succ k ih =>
    rw [low, val, ih, ofNat_toNat_mod, Nat.pow_succ, Nat.mul_comm (256 ^ k) 256, Nat.mod_mul]
theorem val_lt (l : List UInt8) : val l < 256 ^ l.length := by
  induction l with
  | nil => simp [val]
  | cons b l ih =>
    have hb := b.toNat_lt
    simp only [val, List.length_cons, Nat.pow_succ]
    omega
theorem low_val (l : List UInt8) : low (val l) l.length = l := by
  induction l with
  | nil => rfl
  | cons b l ih =>
    have hb := b.toNat_lt
    simp only [val, List.length_cons, low]
    have h1 : (b.toNat + 256 * val l) % 256 = b.toNat := by omega
    have h2 : (b.toNat + 256 * val l) / 256 = val l := by omega
    rw [h1, h2, ih]
    simp
theorem low_snoc (n k : Nat) : low n (k + 1) = low n k ++ [UInt8.ofNat (n / 256 ^ k % 256)] := by
  induction k generalizing n with
  | zero => simp [low]
  | succ k ih =>
    rw [low, ih (n / 256), low]
    simp [Nat.div_div_eq_div_mul, Nat.pow_succ, Nat.mul_comm]
theorem val_snoc (l : List UInt8) (b : UInt8) : val (l ++ [b]) = val l + 256 ^ l.length * b.toNat := by
  induction l with
  | nil => simp [val]
  | cons c l ih =>
    simp only [List.cons_append, val, ih, List.length_cons, Nat.pow_succ]
    rw [Nat.mul_add, Nat.mul_comm (256 ^ l.length) 256, Nat.mul_assoc, Nat.add_assoc]
theorem val_append (l m : List UInt8) : val (l ++ m) = val l + 256 ^ l.length * val m := by
  induction l with
  | nil => simp [val]
  | cons c l ih =>
    simp only [List.cons_append, val, ih, List.length_cons, Nat.pow_succ]
    rw [Nat.mul_add, Nat.mul_comm (256 ^ l.length) 256, Nat.mul_assoc, Nat.add_assoc]
theorem low_inj {n m k : Nat} (hn : n < 256 ^ k) (hm : m < 256 ^ k) (h : low n k = low m k) : n = m := by
  have := congrArg val h
  rw [val_low, val_low, Nat.mod_eq_of_lt hn, Nat.mod_eq_of_lt hm] at this
  exact this

theorem mod_pow_succ (n k : Nat) : n % 256 ^ (k + 1) = n % 256 ^ k + 256 ^ k * (n / 256 ^ k % 256) := by
  rw [Nat.pow_succ, Nat.mod_mul]
theorem ofNat_lt (a b : Nat) : (UInt8.ofNat (a % 256) < UInt8.ofNat (b % 256)) ↔ a % 256 < b % 256 := by
  rw [UInt8.lt_iff_toNat_lt, ofNat_toNat_mod, ofNat_toNat_mod]
theorem ofNat_eq (a b : Nat) : (UInt8.ofNat (a % 256) = UInt8.ofNat (b % 256)) ↔ a % 256 = b % 256 := by
  rw [← UInt8.toNat_inj, ofNat_toNat_mod, ofNat_toNat_mod]
theorem less_low (n m k : Nat) : Op.bytesLess (low n k).reverse (low m k).reverse = decide (n % 256 ^ k < m % 256 ^ k) := by
  induction k with
  | zero => simp [low, Op.bytesLess, Nat.mod_one]
  | succ k ih =>
    rw [low_snoc, low_snoc, List.reverse_append, List.reverse_append]
    simp only [List.reverse_cons, List.reverse_nil, List.nil_append, List.singleton_append, Op.bytesLess, ih]
    rw [mod_pow_succ n k, mod_pow_succ m k]
    have hn : n % 256 ^ k < 256 ^ k := Nat.mod_lt _ (Nat.pow_pos (by omega))
    have hm : m % 256 ^ k < 256 ^ k := Nat.mod_lt _ (Nat.pow_pos (by omega))
    generalize 256 ^ k = K at hn hm ⊢
    have e1 := ofNat_lt (n / K) (m / K)
    have e2 := ofNat_eq (n / K) (m / K)
    generalize n / K % 256 = a at e1 e2 ⊢
    generalize m / K % 256 = b at e1 e2 ⊢
    generalize n % K = x at hn ⊢
    generalize m % K = y at hm ⊢
    rw [Bool.eq_iff_iff]
    simp only [Bool.or_eq_true, Bool.and_eq_true, decide_eq_true_eq, beq_iff_eq, e1, e2]
    rcases Nat.lt_trichotomy a b with h | h | h
    · have : K * (a + 1) ≤ K * b := Nat.mul_le_mul_left K h
      rw [Nat.mul_add] at this
      omega
    · subst h; omega
    · have : K * (b + 1) ≤ K * a := Nat.mul_le_mul_left K h
      rw [Nat.mul_add] at this
      omega
theorem same_low {n m : Nat} (hn : n < 256 ^ 8) (hm : m < 256 ^ 8) : ((low n 8).reverse == (low m 8).reverse) = decide (n = m) := by
  rw [Bool.eq_iff_iff]
  simp only [beq_iff_eq, decide_eq_true_eq, List.reverse_inj]
  exact ⟨low_inj hn hm, fun h => by rw [h]⟩
end Go.Proofs.Ytcecjoodlmpgnaa
/- Bytes' inverses, and the boxes of the bytes: the tables. Nothing of any function. -/
namespace Go.Proofs.Ytcecjoodlmpgnaa
def invT : List Nat := [0, 1, 141, 246, 203, 82, 123, 209, 232, 79, 41, 192, 176, 225, 229, 199, 116, 180, 170, 75, 153, 43, 96, 95, 88, 63, 253, 204, 255, 64, 238, 178, 58, 110, 90, 241, 85, 77, 168, 201, 193, 10, 152, 21, 48, 68, 162, 194, 44, 69, 146, 108, 243, 57, 102, 66, 242, 53, 32, 111, 119, 187, 89, 25, 29, 254, 55, 103, 45, 49, 245, 105, 167, 100, 171, 19, 84, 37, 233, 9, 237, 92, 5, 202, 76, 36, 135, 191, 24, 62, 34, 240, 81, 236, 97, 23, 22, 94, 175, 211, 73, 166, 54, 67, 244, 71, 145, 223, 51, 147, 33, 59, 121, 183, 151, 133, 16, 181, 186, 60, 182, 112, 208, 6, 161, 250, 129, 130, 131, 126, 127, 128, 150, 115, 190, 86, 155, 158, 149, 217, 247, 2, 185, 164, 222, 106, 50, 109, 216, 138, 132, 114, 42, 20, 159, 136, 249, 220, 137, 154, 251, 124, 46, 195, 143, 184, 101, 72, 38, 200, 18, 74, 206, 231, 210, 98, 12, 224, 31, 239, 17, 117, 120, 113, 165, 142, 118, 61, 189, 188, 134, 87, 11, 40, 47, 163, 218, 212, 228, 15, 169, 39, 83, 4, 27, 252, 172, 230, 122, 7, 174, 99, 197, 219, 226, 234, 148, 139, 196, 213, 157, 248, 144, 107, 177, 13, 214, 235, 198, 14, 207, 173, 8, 78, 215, 227, 93, 80, 30, 179, 91, 35, 56, 52, 104, 70, 3, 140, 221, 156, 125, 160, 205, 26, 65, 28]
def boxT : List Nat := [99, 124, 119, 123, 242, 107, 111, 197, 48, 1, 103, 43, 254, 215, 171, 118, 202, 130, 201, 125, 250, 89, 71, 240, 173, 212, 162, 175, 156, 164, 114, 192, 183, 253, 147, 38, 54, 63, 247, 204, 52, 165, 229, 241, 113, 216, 49, 21, 4, 199, 35, 195, 24, 150, 5, 154, 7, 18, 128, 226, 235, 39, 178, 117, 9, 131, 44, 26, 27, 110, 90, 160, 82, 59, 214, 179, 41, 227, 47, 132, 83, 209, 0, 237, 32, 252, 177, 91, 106, 203, 190, 57, 74, 76, 88, 207, 208, 239, 170, 251, 67, 77, 51, 133, 69, 249, 2, 127, 80, 60, 159, 168, 81, 163, 64, 143, 146, 157, 56, 245, 188, 182, 218, 33, 16, 255, 243, 210, 205, 12, 19, 236, 95, 151, 68, 23, 196, 167, 126, 61, 100, 93, 25, 115, 96, 129, 79, 220, 34, 42, 144, 136, 70, 238, 184, 20, 222, 94, 11, 219, 224, 50, 58, 10, 73, 6, 36, 92, 194, 211, 172, 98, 145, 149, 228, 121, 231, 200, 55, 109, 141, 213, 78, 169, 108, 86, 244, 234, 101, 122, 174, 8, 186, 120, 37, 46, 28, 166, 180, 198, 232, 221, 116, 31, 75, 189, 139, 138, 112, 62, 181, 102, 72, 3, 246, 14, 97, 53, 87, 185, 134, 193, 29, 158, 225, 248, 152, 17, 105, 217, 142, 148, 155, 30, 135, 233, 206, 85, 40, 223, 140, 161, 137, 13, 191, 230, 66, 104, 65, 153, 45, 15, 176, 84, 187, 22]
end Go.Proofs.Ytcecjoodlmpgnaa
/- Bytes as polynomials over 0 and 1, in plain numbers: nothing of the program. -/
namespace Go.Proofs.Ytcecjoodlmpgnaa

/-- Additive over xor. -/
def Lin (f : Nat → Nat) : Prop := ∀ x y, f (x ^^^ y) = f x ^^^ f y
theorem Lin.zero {f : Nat → Nat} (h : Lin f) : f 0 = 0 := by
  have := h 0 0
  rw [Nat.xor_self] at this
  rw [this, Nat.xor_self]
theorem Lin.comp {f g : Nat → Nat} (h : Lin f) (k : Lin g) : Lin fun x => f (g x) := fun x y => by
  show f (g (x ^^^ y)) = f (g x) ^^^ f (g y)
  rw [k, h]
theorem xor4 (a b c d : Nat) : (a ^^^ b) ^^^ (c ^^^ d) = (a ^^^ c) ^^^ (b ^^^ d) := by
  rw [Nat.xor_assoc, ← Nat.xor_assoc b c d, Nat.xor_comm b c, Nat.xor_assoc c b d, ← Nat.xor_assoc]
theorem Lin.add {f g : Nat → Nat} (h : Lin f) (k : Lin g) : Lin fun x => f x ^^^ g x := fun x y => by
  show f (x ^^^ y) ^^^ g (x ^^^ y) = (f x ^^^ g x) ^^^ (f y ^^^ g y)
  rw [h, k, xor4]
theorem Lin.self : Lin fun x => x := fun _ _ => rfl
theorem Lin.none : Lin fun _ => 0 := fun _ _ => (Nat.xor_self 0).symm

/-- A number, if the bit is so; else 0. -/
def sel (b : Bool) (x : Nat) : Nat := bif b then x else 0
theorem sel_bits (b c : Bool) (x : Nat) : sel (b ^^ c) x = sel b x ^^^ sel c x := by cases b <;> cases c <;> simp [sel]
theorem sel_nums (b : Bool) (x y : Nat) : sel b (x ^^^ y) = sel b x ^^^ sel b y := by cases b <;> simp [sel]
theorem Lin.bit (i x : Nat) : Lin fun n => sel (n.testBit i) x := fun a b => by
  show sel ((a ^^^ b).testBit i) x = _
  rw [Nat.testBit_xor, sel_bits]
theorem Lin.sel {f : Nat → Nat} (h : Lin f) (b : Bool) : Lin fun n => Go.Proofs.Ytcecjoodlmpgnaa.sel b (f n) := fun x y => by
  show Go.Proofs.Ytcecjoodlmpgnaa.sel b (f (x ^^^ y)) = _
  rw [h, sel_nums]
theorem sel_lt {b : Bool} {x n : Nat} (hn : 0 < n) (h : x < n) : sel b x < n := by cases b <;> simp [sel, *]

/-- Two of them that are the same at the powers of 2 are the same below the next one. -/
theorem lin_ext {f g : Nat → Nat} (hf : Lin f) (hg : Lin g) : ∀ k, (∀ i, i < k → f (2 ^ i) = g (2 ^ i)) → ∀ x, x < 2 ^ k → f x = g x := by
  intro k
  induction k with
  | zero =>
    intro _ x hx
    obtain rfl : x = 0 := by omega
    rw [hf.zero, hg.zero]
  | succ k ih =>
    intro h x hx
    by_cases hlt : x < 2 ^ k
    · exact ih (fun i hi => h i (by omega)) x hlt
    · have hb : x ^^^ 2 ^ k < 2 ^ k := by
        apply Nat.lt_pow_two_of_testBit
        intro i hi
        rw [Nat.testBit_xor]
        by_cases e : i = k
        · subst e
          have : x.testBit i = true := by
            rw [Nat.testBit_eq_decide_div_mod_eq]
            have h1 : x / 2 ^ i = 1 := by
              apply Nat.div_eq_of_lt_le
              · omega
              · rw [Nat.pow_succ] at hx; omega
            rw [h1]; rfl
          rw [this, Nat.testBit_two_pow_self]
          rfl
        · rw [Nat.testBit_lt_two_pow (Nat.lt_of_lt_of_le hx (Nat.pow_le_pow_right (by omega) (by omega))), Nat.testBit_two_pow_of_ne (by omega)]
          rfl
      have e : x = (x ^^^ 2 ^ k) ^^^ 2 ^ k := by rw [Nat.xor_assoc, Nat.xor_self, Nat.xor_zero]
      rw [e, hf, hg, ih (fun i hi => h i (by omega)) _ hb, h k (by omega)]
theorem byte_ext {f g : Nat → Nat} (hf : Lin f) (hg : Lin g) (h : ∀ i, i < 8 → f (2 ^ i) = g (2 ^ i)) (x : Nat) (hx : x < 256) : f x = g x := lin_ext hf hg 8 h x hx

theorem lin_half : Lin fun x => x / 2 := fun x y => by
  have h := Nat.shiftRight_xor_distrib (a := x) (b := y) (i := 1)
  simpa [Nat.shiftRight_eq_div_pow] using h
theorem lin_mod (k : Nat) : Lin fun x => x % 2 ^ k := fun _ _ => Nat.xor_mod_two_pow
theorem lin_mul (k : Nat) : Lin fun x => x * 2 ^ k := fun x y => by
  have h := Nat.shiftLeft_xor_distrib (a := x) (b := y) (i := k)
  simpa [Nat.shiftLeft_eq] using h

/-- A byte times x. -/
def dbl (a : Nat) : Nat := (a % 128 * 2) ^^^ sel (a.testBit 7) 27
theorem lin_dbl : Lin dbl := Lin.add (f := fun a => a % 128 * 2) (Lin.comp (f := fun x => x * 2) (lin_mul 1) (lin_mod 7)) (Lin.bit 7 27)
theorem xor_lt8 {a b : Nat} (h : a < 256) (k : b < 256) : a ^^^ b < 256 := Nat.xor_lt_two_pow (n := 8) h k
theorem dbl_lt (a : Nat) : dbl a < 256 := xor_lt8 (by omega) (sel_lt (by omega) (by omega))

/-- The product, as shifts tell it, of so many bits. -/
def mulA : Nat → Nat → Nat → Nat
  | 0, _, _ => 0
  | k + 1, a, b => sel (b.testBit 0) a ^^^ mulA k (dbl a) (b / 2)
theorem lin_left (k : Nat) : ∀ b, Lin fun a => mulA k a b := by
  induction k with
  | zero => intro b; exact Lin.none
  | succ k ih => intro b; exact Lin.add (f := fun a => sel (b.testBit 0) a) (Lin.sel Lin.self _) (Lin.comp (f := fun a => mulA k a (b / 2)) (ih _) lin_dbl)
theorem lin_right (k : Nat) : ∀ a, Lin fun b => mulA k a b := by
  induction k with
  | zero => intro b; exact Lin.none
  | succ k ih => intro a; exact Lin.add (f := fun b => sel (b.testBit 0) a) (Lin.bit 0 a) (Lin.comp (f := fun b => mulA k (dbl a) b) (ih _) lin_half)
theorem mulA_lt (k : Nat) : ∀ a b, a < 256 → mulA k a b < 256 := by
  induction k with
  | zero => intro a b _; exact Nat.zero_lt_succ _
  | succ k ih => intro a b h; exact xor_lt8 (sel_lt (by omega) h) (ih _ _ (dbl_lt a))
/-- Two bytes' product. -/
def cm (a b : Nat) : Nat := mulA 8 a b
theorem cm_left (b : Nat) : Lin fun a => cm a b := lin_left 8 b
theorem cm_right (a : Nat) : Lin fun b => cm a b := lin_right 8 a
theorem cm_lt {a : Nat} (b : Nat) (h : a < 256) : cm a b < 256 := mulA_lt 8 a b h
/-- As the loop goes: what is made so far, and the two bytes that are left. -/
def mulF : Nat → Nat → Nat → Nat → Nat
  | 0, p, _, _ => p
  | k + 1, p, a, b => mulF k (p ^^^ sel (b.testBit 0) a) (dbl a) (b / 2)
theorem mulF_is (k : Nat) : ∀ p a b, mulF k p a b = p ^^^ mulA k a b := by
  induction k with
  | zero => intro p a b; exact (Nat.xor_zero p).symm
  | succ k ih => intro p a b; rw [mulF, ih, mulA, Nat.xor_assoc]
theorem mulF_zero (k : Nat) : ∀ p a, mulF k p a 0 = p := by
  intro p a
  rw [mulF_is, (lin_right k a).zero, Nat.xor_zero]

/-- It is a ring. -/
theorem cm_comm {a b : Nat} (ha : a < 256) (hb : b < 256) : cm a b = cm b a := by
  have key : ∀ i, i < 8 → ∀ j, j < 8 → cm (2 ^ i) (2 ^ j) = cm (2 ^ j) (2 ^ i) := by decide +kernel
  exact byte_ext (f := fun a => cm a b) (g := fun a => cm b a) (cm_left b) (cm_right b) (fun i hi =>
    byte_ext (f := fun b => cm (2 ^ i) b) (g := fun b => cm b (2 ^ i)) (cm_right _) (cm_left _) (key i hi) b hb) a ha
theorem cm_assoc {a b c : Nat} (ha : a < 256) (hb : b < 256) (hc : c < 256) : cm (cm a b) c = cm a (cm b c) := by
  have key : ∀ i, i < 8 → ∀ j, j < 8 → ∀ k, k < 8 → cm (cm (2 ^ i) (2 ^ j)) (2 ^ k) = cm (2 ^ i) (cm (2 ^ j) (2 ^ k)) := by decide +kernel
  exact byte_ext (f := fun a => cm (cm a b) c) (g := fun a => cm a (cm b c)) ((cm_left c).comp (cm_left b)) (cm_left _) (fun i hi =>
    byte_ext (f := fun b => cm (cm (2 ^ i) b) c) (g := fun b => cm (2 ^ i) (cm b c)) ((cm_left c).comp (cm_right _)) ((cm_right _).comp (cm_left c)) (fun j hj =>
      byte_ext (f := fun c => cm (cm (2 ^ i) (2 ^ j)) c) (g := fun c => cm (2 ^ i) (cm (2 ^ j) c)) (cm_right _) ((cm_right _).comp (cm_right _)) (key i hi j hj) c hc) b hb) a ha
theorem cm_one {a : Nat} (ha : a < 256) : cm a 1 = a := by
  have key : ∀ i, i < 8 → cm (2 ^ i) 1 = 2 ^ i := by decide +kernel
  exact byte_ext (f := fun a => cm a 1) (g := fun a => a) (cm_left 1) Lin.self key a ha
theorem one_cm {a : Nat} (ha : a < 256) : cm 1 a = a := by rw [cm_comm (by omega) ha, cm_one ha]
theorem cm_zero (a : Nat) : cm a 0 = 0 := (cm_right a).zero
theorem zero_cm (a : Nat) : cm 0 a = 0 := (cm_left a).zero
theorem cm_spread (a b c : Nat) : cm a (b ^^^ c) = cm a b ^^^ cm a c := cm_right a b c

/-- Inverses. -/
def inv (a : Nat) : Nat := invT.getD a 0
theorem inv_all : ∀ a, a < 256 → inv a < 256 ∧ inv (inv a) = a ∧ (a = 0 ∨ cm a (inv a) = 1) := by decide +kernel
theorem inv_lt {a : Nat} (h : a < 256) : inv a < 256 := (inv_all a h).1
theorem inv_inv {a : Nat} (h : a < 256) : inv (inv a) = a := (inv_all a h).2.1
theorem cm_inv {a : Nat} (h : a < 256) (h0 : a ≠ 0) : cm a (inv a) = 1 := by
  rcases (inv_all a h).2.2 with e | e
  · exact absurd e h0
  · exact e
theorem inv_zero : inv 0 = 0 := rfl
theorem inv_only {a b : Nat} (ha : a < 256) (hb : b < 256) (h : cm a b = 1) : b = inv a := by
  have h0 : a ≠ 0 := by
    rintro rfl
    rw [zero_cm] at h
    cases h
  have e := cm_assoc (inv_lt ha) ha hb
  rw [h, cm_comm (inv_lt ha) ha, cm_inv ha h0, one_cm hb, cm_one (inv_lt ha)] at e
  exact e
theorem inv_ne {a : Nat} (h : a < 256) (h0 : a ≠ 0) : inv a ≠ 0 := by
  intro e
  have := cm_inv h h0
  rw [e, cm_zero] at this
  cases this

/-- Powers. -/
def pw (a : Nat) : Nat → Nat
  | 0 => 1
  | n + 1 => cm (pw a n) a
theorem pw_lt {a : Nat} (_h : a < 256) (n : Nat) : pw a n < 256 := by
  induction n with
  | zero => exact (by decide : (1 : Nat) < 256)
  | succ n ih => exact cm_lt _ ih
theorem pw_add {a : Nat} (h : a < 256) (m n : Nat) : pw a (m + n) = cm (pw a m) (pw a n) := by
  induction n with
  | zero => rw [Nat.add_zero, pw, cm_one (pw_lt h m)]
  | succ n ih => rw [← Nat.add_assoc, pw, ih, pw, cm_assoc (pw_lt h m) (pw_lt h n) h]
theorem pw_one {a : Nat} (h : a < 256) : pw a 1 = a := by rw [pw, pw, one_cm h]
theorem pw_sq {a : Nat} (h : a < 256) (k : Nat) : pw a (2 ^ (k + 1)) = cm (pw a (2 ^ k)) (pw a (2 ^ k)) := by
  rw [Nat.pow_succ, Nat.mul_two, pw_add h]
theorem pw_bit {a : Nat} (h : a < 256) (n k : Nat) : pw a (n % 2 ^ (k + 1)) = bif n.testBit k then cm (pw a (n % 2 ^ k)) (pw a (2 ^ k)) else pw a (n % 2 ^ k) := by
  have e : n % 2 ^ (k + 1) = n % 2 ^ k + 2 ^ k * (n / 2 ^ k % 2) := by rw [Nat.pow_succ, Nat.mod_mul]
  rw [Nat.testBit_eq_decide_div_mod_eq, e]
  rcases Nat.mod_two_eq_zero_or_one (n / 2 ^ k) with h0 | h1
  · rw [h0]; simp
  · rw [h1]; simp [pw_add h]
/-- A number reckoned ahead of what is told of it. -/
def strict (n : Nat) (f : Nat → Nat) : Nat := Nat.rec (f 0) (fun m _ => f (m + 1)) n
theorem strict_is (n : Nat) (f : Nat → Nat) : strict n f = f n := by cases n <;> rfl
def sqS : Nat → Nat → Nat
  | 0, a => a
  | k + 1, a => strict (cm a a) (sqS k)
theorem sqS_is (k : Nat) : ∀ a, a < 256 → sqS k a = pw a (2 ^ k) := by
  induction k with
  | zero => intro a h; exact (pw_one h).symm
  | succ k ih =>
    intro a h
    rw [sqS, strict_is, ih _ (cm_lt a h)]
    have key : ∀ n, pw (cm a a) n = pw a (2 * n) := by
      intro n
      induction n with
      | zero => rfl
      | succ n ihn =>
        rw [pw, ihn, show 2 * (n + 1) = 2 * n + 1 + 1 by omega, pw, pw, cm_assoc (pw_lt h _) h h]
    rw [key, Nat.pow_succ, Nat.mul_comm]
theorem pw_256 {a : Nat} (h : a < 256) : pw a 256 = a := by
  have key : ∀ a, a < 256 → sqS 8 a = a := by decide +kernel
  have := sqS_is 8 a h
  rw [key a h] at this
  exact this.symm
theorem pw_255 {a : Nat} (h : a < 256) (h0 : a ≠ 0) : pw a 255 = 1 := by
  have e : cm (pw a 255) a = a := pw_256 h
  have e2 := cm_assoc (pw_lt h 255) h (inv_lt h)
  rw [e, cm_inv h h0, cm_one (pw_lt h _)] at e2
  exact e2.symm
theorem pw_254 {a : Nat} (h : a < 256) : pw a 254 = inv a := by
  by_cases h0 : a = 0
  · subst h0
    rw [pw, cm_zero]
    rfl
  · exact inv_only h (pw_lt h _) (by rw [cm_comm h (pw_lt h _)]; exact pw_255 h h0)
theorem pw_zero (n : Nat) (h : 0 < n) : pw 0 n = 0 := by
  obtain ⟨m, rfl⟩ : ∃ m, n = m + 1 := ⟨n - 1, by omega⟩
  rw [pw, cm_zero]
theorem pw_round {a : Nat} (h : a < 256) (h0 : a ≠ 0) (n : Nat) : pw a (n + 255) = pw a n := by rw [pw_add h, pw_255 h h0, cm_one (pw_lt h _)]
theorem pw_mod {a : Nat} (h : a < 256) (h0 : a ≠ 0) (n : Nat) : pw a (n % 255 + 255) = pw a n := by
  have key : ∀ q r, pw a (r + 255 * q) = pw a r := by
    intro q
    induction q with
    | zero => intro r; rfl
    | succ q ih => intro r; rw [show r + 255 * (q + 1) = r + 255 * q + 255 by omega, pw_round h h0, ih]
  rw [pw_round h h0, ← key (n / 255) (n % 255), Nat.mod_add_div]

/-- Boxes. -/
def box (a : Nat) : Nat := boxT.getD a 0
/-- A byte turned right. -/
def rot (b n : Nat) : Nat := (b / 2 ^ n) ||| (b * 2 ^ (8 - n) % 256)
/-- The box of the byte that has this inverse. -/
def boxI (b : Nat) : Nat := b ^^^ 99 ^^^ rot b 4 ^^^ rot b 5 ^^^ rot b 6 ^^^ rot b 7
theorem box_all : ∀ a, a < 256 → boxI (inv a) = box a ∧ box a < 256 ∧ boxT.idxOf (box a) = a ∧ box a ≠ a ∧ box a ≠ 255 - a := by decide +kernel
theorem box_inj {a b : Nat} (ha : a < 256) (hb : b < 256) (h : box a = box b) : a = b := by
  rw [← (box_all a ha).2.2.1, ← (box_all b hb).2.2.1, h]
theorem rot_lt {b : Nat} (n : Nat) (h : b < 256) : rot b n < 256 := Nat.or_lt_two_pow (n := 8) (Nat.lt_of_le_of_lt (Nat.div_le_self _ _) h) (Nat.mod_lt _ (by omega))
end Go.Proofs.Ytcecjoodlmpgnaa
/- Words for slices of strings: what can be read of one, and one that the call made. Nothing of any function. -/
namespace Go.Proofs.Ytcecjoodlmpgnaa
open Go.RowKit

/-- A string's cell. -/
abbrev sv (x : List UInt8) : Value := .string ⟨x.toArray⟩
/-- A row of strings that can be read: where it lies, if it has any. -/
def SR (w : World) (A : Option Addr) (L : List (List UInt8)) : Prop :=
  ∀ j, j < L.length → ∃ g off, A = some ⟨g, off, none⟩ ∧ w.cell? ⟨g, off + j, none⟩ = some (sv (L.getD j []))
theorem SR.later {w w' : World} {A : Option Addr} {L : List (List UInt8)} (h : SR w A L) (hb : Below w.heap.size w w') : SR w' A L := fun j hj => by
  obtain ⟨g, off, e, h0⟩ := h j hj
  exact ⟨g, off, e, cell_later hb h0⟩
theorem SR.drew {w : World} {A : Option Addr} {L : List (List UInt8)} (h : SR w A L) : SR w.drew A L := h
theorem SR.drewN {w : World} {A : Option Addr} {L : List (List UInt8)} (h : SR w A L) (n : Nat) : SR (w.drewN n) A L := h
theorem SR.nil (w : World) (A : Option Addr) : SR w A [] := fun j hj => absurd hj (by simp)
theorem getD_take {α : Type} (L : List α) (m j : Nat) (d : α) (h : j < m) : (L.take m).getD j d = L.getD j d := by
  simp only [List.getD, List.getElem?_take, h, if_true]
theorem SR.take {w : World} {A : Option Addr} {L : List (List UInt8)} (h : SR w A L) (m : Nat) : SR w A (L.take m) := fun j hj => by
  rw [List.length_take] at hj
  obtain ⟨g, off, e, h0⟩ := h j (by omega)
  exact ⟨g, off, e, by rw [getD_take _ _ _ _ (by omega)]; exact h0⟩
theorem getD_drop {α : Type} (L : List α) (m j : Nat) (d : α) : (L.drop m).getD j d = L.getD (m + j) d := by simp [List.getD]
/-- The row from a place on. -/
theorem SR.drop {w : World} {g off : Nat} {L : List (List UInt8)} (h : SR w (some ⟨g, off, none⟩) L) (m : Nat) : SR w (some ⟨g, off + m, none⟩) (L.drop m) := fun j hj => by
  rw [List.length_drop] at hj
  obtain ⟨g', off', e, h0⟩ := h (m + j) (by omega)
  obtain ⟨rfl, rfl⟩ : g = g' ∧ off = off' := by injection e with e; injection e with e1 e2; exact ⟨e1, e2⟩
  exact ⟨g, off + m, rfl, by rw [getD_drop, Nat.add_assoc]; exact h0⟩
theorem svs_at (L : List (List UInt8)) (j : Nat) (h : j < L.length) : (L.map sv)[j]? = some (sv (L.getD j [])) := by
  simp [List.getD, h]
theorem own_SR {W : World} {base g c n : Nat} {L : List (List UInt8)} (h : W.ownsRow base 9 1 (.slice (some ⟨g, 0, none⟩) n c) n (L.map sv)) (hl : L.length = n) : SR W (some ⟨g, 0, none⟩) L := fun j hj =>
  ⟨g, 0, rfl, by rw [Nat.zero_add, h.cellAt j (by omega), svs_at L j hj]⟩
theorem own_form {W : World} {base : Nat} {e : TypeId} {size : Nat} {v : Value} {n : Nat} {xs : List Value} (h : W.ownsRow base e size v n xs) : ∃ A c, v = .slice A n c ∧ ((A = none ∧ n = 0 ∧ c = 0) ∨ ∃ g, A = some ⟨g, 0, none⟩ ∧ n ≤ c ∧ c ≤ maxLen ∧ base ≤ g) := by
  rcases h.2 with ⟨rfl, rfl⟩ | ⟨g, cap, cur, rfl, hb, _, hn, hc, _⟩
  · exact ⟨none, 0, rfl, .inl ⟨rfl, rfl, rfl⟩⟩
  · exact ⟨_, cap, rfl, .inr ⟨g, rfl, hn, hc, hb⟩⟩
theorem own_SR' {W : World} {base : Nat} {A : Option Addr} {n c : Nat} {L : List (List UInt8)} (h : W.ownsRow base 9 1 (.slice A n c) n (L.map sv)) (hl : L.length = n) : SR W A L := by
  obtain ⟨A', c', e, hh⟩ := own_form h
  injection e with e1 e2 e3
  subst e1
  subst e3
  rcases hh with ⟨rfl, rfl, rfl⟩ | ⟨g, rfl, _⟩
  · obtain rfl : L = [] := List.eq_nil_of_length_eq_zero hl
    exact SR.nil _ _
  · exact own_SR h hl
theorem own_later {W W' : World} {base : Nat} {e : TypeId} {size : Nat} {v : Value} {n : Nat} {xs : List Value} (h : W.ownsRow base e size v n xs) (hb : Below W.heap.size W W') : W'.ownsRow base e size v n xs := by
  obtain ⟨h1, h2⟩ := h
  refine ⟨h1, ?_⟩
  rcases h2 with h2 | ⟨g, cap, cur, hv, hg, hh, r⟩
  · exact Or.inl h2
  · exact Or.inr ⟨g, cap, cur, hv, hg, (hb.block g (Array.getElem?_eq_some_iff.1 hh).1).trans hh, r⟩
theorem infoS : (Try.prog.info? 9).map (fun i => (i.zero, i.size, i.bytes)) = some (some (.string ⟨#[]⟩), 1, 16) := by kernel_rfl
end Go.Proofs.Ytcecjoodlmpgnaa
/- What every claim's last part wants: the parameters' forms. Nothing of any function, and of no type but those that every program has. -/
namespace Go.Proofs.Ytcecjoodlmpgnaa
open Go.ChangeShapes Go.WideShapes Go.ChangeAt Go.RowKit Go.Joins Go.Deep

theorem str_list (s : ByteArray) : ∃ l : List UInt8, s = ⟨l.toArray⟩ ∧ l.length = s.size := ⟨s.data.toList, rfl, Array.length_toList⟩
theorem Try.own : ownKnob Try.prog.godebug = none := by kernel_rfl
theorem Try.laidOut : laidOutB Try.prog = true := by kernel_rfl
theorem extract_take (s : List UInt8) (m : Nat) : (⟨s.toArray⟩ : ByteArray).extract 0 m = ⟨(s.take m).toArray⟩ := by
  apply ByteArray.ext
  apply Array.toList_inj.1
  rw [Lib.extract_data]
  simp

/-- What the arguments read as stays, whatever the call makes. -/
theorem trodAll_below_ {H : Type} {enc : TypeId × Value → H} {P : Program} (hl : laidOutB P = true) {W W' : World} (hb : Below W.heap.size W W') (ts : List TypeId) : ∀ {vs : List Value} {ds : List (DataW H)} {ps : List MemPlace},
    DataW.TrodAll enc P W 0 (fun _ => true) true ts vs ds ps → (∀ t ∈ ts, P.readableRec t = true ∧ t < P.types.size) → (∀ x ∈ ps, x.block < W.heap.size) →
    DataW.TrodAll enc P W' 0 (fun b => decide (b < W.heap.size)) true ts vs ds ps := by
  induction ts with
  | nil =>
    intro vs ds ps h _ _
    obtain ⟨rfl, rfl, rfl⟩ := trodAll_nil h
    rfl
  | cons t ts ih =>
    intro vs ds ps h ha hlt
    obtain ⟨v, vs', d, ds', p, q, rfl, rfl, rfl, h1, h2⟩ := trodAll_cons h
    have ht := ha t (List.mem_cons_self)
    exact trodAll_cons_mk (Below.trod hl ht.1 ht.2 h1 hb fun x hx => hlt x (List.mem_append_left _ hx)) (ih h2 (fun t h => ha t (List.mem_cons_of_mem _ h)) fun x hx => hlt x (List.mem_append_right _ hx))
theorem all_readable {P : Program} {ts : List TypeId} (h : (ts.all fun t => P.readableRec t && decide (t < P.types.size)) = true) : ∀ t ∈ ts, P.readableRec t = true ∧ t < P.types.size := by
  intro t ht
  have := List.all_eq_true.1 h t ht
  simpa using this
theorem u8_nat {n : Int} (h : (Lit.int .u8 n).wf = true) : ∃ m : Nat, n = (m : Int) ∧ (m : Int) < 256 := by
  simp [Lit.wf] at h
  have h1 : IntKind.u8.min = 0 := by decide
  have h2 : IntKind.u8.max = 255 := by decide
  rw [h1, h2] at h
  exact ⟨n.toNat, by omega, by omega⟩
theorem i64_bounds {n : Int} (h : (Lit.int .i64 n).wf = true) : -9223372036854775808 ≤ n ∧ n ≤ 9223372036854775807 := by
  have h1 : IntKind.i64.min = -9223372036854775808 := by decide
  simp [Lit.wf] at h
  rw [h1] at h
  exact h
end Go.Proofs.Ytcecjoodlmpgnaa
