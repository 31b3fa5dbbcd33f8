/- Rows of words in memory, and a map's value. Nothing of any function. -/
import Derived.Test.YthknelpcdoebiaaStr
import Derived.Test.YthknelpcdoebiaaZMath
import Derived.Laws.BitsAllLaws
import Derived.Lib.Hide
namespace Go.Proofs.Ythknelpcdoebiaa
open Go.RowKit

/-- A word's cell. -/
abbrev zq (x : Nat) : Value := .int .u64 (x : Int)
/-- A row of words that can be read: where it lies, if it has any. -/
def ZRow (w : World) (A : Option Addr) (L : List Nat) : Prop :=
  ∀ j, j < L.length → ∃ g off, A = some ⟨g, off, none⟩ ∧ w.cell? ⟨g, off + j, none⟩ = some (zq (L.getD j 0))
theorem ZRow.later {w w' : World} {A : Option Addr} {L : List Nat} (h : ZRow w A L) (hb : Below w.heap.size w w') : ZRow w' A L := fun j hj => by
  obtain ⟨g, off, e, h0⟩ := h j hj
  exact ⟨g, off, e, cell_later hb h0⟩
theorem ZRow.nil (w : World) (A : Option Addr) : ZRow w A [] := fun j hj => absurd hj (by simp)
theorem ZRow.take {w : World} {A : Option Addr} {L : List Nat} (h : ZRow w A L) (m : Nat) : ZRow w A (L.take m) := fun j hj => by
  rw [List.length_take] at hj
  obtain ⟨g, off, e, h0⟩ := h j (by omega)
  exact ⟨g, off, e, by rw [getD_take _ _ _ _ (by omega)]; exact h0⟩
theorem zqs_at (L : List Nat) (j : Nat) (h : j < L.length) : (L.map zq)[j]? = some (zq (L.getD j 0)) := by
  simp [List.getD, h]
theorem zqs_one (L : List Nat) : ∀ u ∈ L.map zq, u.oneCell' = true := by
  intro u hu
  obtain ⟨x, _, rfl⟩ := List.mem_map.1 hu
  rfl
theorem ZRow.cells {w : World} {a : Addr} {L : List Nat} (h : ZRow w (some a) L) : ∀ j u, (L.map zq)[j]? = some u → w.cell? (a.add j) = some u := by
  intro j u hu
  have hj : j < L.length := by simpa using (List.getElem?_eq_some_iff.1 hu).1
  obtain ⟨g, off, e, h0⟩ := h j hj
  obtain rfl : a = ⟨g, off, none⟩ := Option.some.inj e
  rw [Go.WideShapes.add_plain, h0, ← zqs_at L j hj, hu]
theorem own_ZRow {W : World} {base : Nat} {A : Option Addr} {n c : Nat} {L : List Nat} (h : W.ownsRow base 23 1 (.slice A n c) n (L.map zq)) (hl : L.length = n) : ZRow W A L := by
  obtain ⟨A', c', e, hh⟩ := own_form h
  injection e with e1 e2 e3
  subst e1
  subst e3
  rcases hh with ⟨rfl, rfl, rfl⟩ | ⟨g, rfl, _⟩
  · obtain rfl : L = [] := List.eq_nil_of_length_eq_zero hl
    exact ZRow.nil _ _
  · intro j hj
    exact ⟨g, 0, rfl, by rw [Nat.zero_add, h.cellAt j (by omega), zqs_at L j hj]⟩
theorem blk_ZRow {W : World} {g : Nat} {t : TypeId} {L : List Nat} (h : Blk W g t (L.map zq).toArray) : ZRow W (some ⟨g, 0, none⟩) L := fun j hj =>
  ⟨g, 0, rfl, by rw [Nat.zero_add, h.cell j, List.getElem?_toArray, zqs_at L j hj]⟩
theorem infoZ : (Try.prog.info? 23).map (fun i => (i.zero, i.size, i.bytes)) = some (some (.int .u64 0), 1, 8) := by kernel_rfl
theorem zinfoB : (Try.prog.info? 25).map (fun i => (i.zero, i.size, i.bytes)) = some (some (.agg #[.int .i64 0, .slice none 0 0, .int .u64 0]), 3, 40) := by kernel_rfl

/-- A map's value, and a map's cells. -/
abbrev zbv (N : Int) (A : Option Addr) (n c F : Nat) : Value := .agg #[.int .i64 N, .slice A n c, zq F]
abbrev zcs (N : Int) (A : Option Addr) (n c F : Nat) : Array Value := #[.int .i64 N, .slice A n c, zq F]

/-- A map that can be read. -/
structure ZM (w : World) (A : Option Addr) (n c : Nat) (L : List Nat) (F : Nat) : Prop where
  row : ZRow w A L
  len : L.length = n
  nil : A = none → c = 0
  few : n ≤ 70
  cap : n ≤ c
  lt : ∀ x ∈ L, x < Z64
  flt : F < Z64
theorem ZM.later {w w' : World} {A : Option Addr} {n c : Nat} {L : List Nat} {F : Nat} (h : ZM w A n c L F) (hb : Below w.heap.size w w') : ZM w' A n c L F :=
  ⟨h.row.later hb, h.len, h.nil, h.few, h.cap, h.lt, h.flt⟩
theorem ZM.none (w : World) : ZM w none 0 0 [] 0 := ⟨ZRow.nil _ _, rfl, fun _ => rfl, by omega, by omega, by simp, by decide⟩

theorem zand_nat (a b : Nat) (ha : a < Z64) (hb : b < Z64) : bits .and .u64 (a : Int) (b : Int) = ((a &&& b : Nat) : Int) := u64_and_nat a b ha hb
theorem zor_nat (a b : Nat) (ha : a < Z64) (hb : b < Z64) : bits .or .u64 (a : Int) (b : Int) = ((a ||| b : Nat) : Int) := u64_or_nat a b ha hb
theorem zandNot_nat (a b : Nat) (ha : a < Z64) (hb : b < Z64) : bits .andNot .u64 (a : Int) (b : Int) = ((a &&& (Zfull - b) : Nat) : Int) := u64_andNot_nat a b ha hb
theorem zxor_full {y : Nat} (h : y < Z64) : Zfull ^^^ y = Zfull - y := by
  have e : Zfull - y = 2 ^ 64 - (y + 1) := by
    have : Zfull = 2 ^ 64 - 1 := by decide
    rw [this]; omega
  have hl : Zfull - y < Z64 := by
    have : Zfull < Z64 := by decide
    omega
  refine zword_ext (Nat.xor_lt_two_pow (n := 64) (by decide) h) hl fun i hi => ?_
  rw [Nat.testBit_xor, zfull_bit hi, e, Nat.testBit_two_pow_sub_succ h]
  simp [hi]
theorem znot_run (k : Nat) : bits .xor .u64 IntKind.u64.max ((18446744073709551615 : Int) / 2 ^ k) = ((Zfull - Zfull / 2 ^ k : Nat) : Int) := by
  have h1 : IntKind.u64.max = ((Zfull : Nat) : Int) := by decide
  have h2 : (18446744073709551615 : Int) / 2 ^ k = ((Zfull / 2 ^ k : Nat) : Int) := by simp
  have hl : Zfull / 2 ^ k < Z64 := Nat.lt_of_le_of_lt (Nat.div_le_self _ _) (by decide)
  rw [h1, h2, u64_xor_nat _ _ (by decide) hl, zxor_full hl]
theorem zone_shl {k : Nat} (h : k < 64) : IntKind.u64.wrap ((2 : Int) ^ k) = ((2 ^ k : Nat) : Int) := by
  have h1 : 2 ^ k < 2 ^ 64 := Nat.pow_lt_pow_right (by omega) h
  have h2 : (2 : Int) ^ k = ((2 ^ k : Nat) : Int) := by simp
  rw [h2]
  rw [show (2 : Nat) ^ 64 = 18446744073709551616 by decide] at h1
  generalize 2 ^ k = y at h1
  have hw := IntKind.wrap_u64
  rw [hw]
  omega
theorem zor_pow {x k : Nat} (hx : x < Z64) (hk : k < 64) : bits .or .u64 (x : Int) ((2 : Int) ^ k) = ((x ||| 2 ^ k : Nat) : Int) := by
  have := zor_nat x (2 ^ k) hx (by rw [z64]; exact Nat.pow_lt_pow_right (by omega) hk)
  rw [show ((2 ^ k : Nat) : Int) = (2 : Int) ^ k by simp] at this
  exact this
theorem zdrew {B : Nat} {w w1 : World} (h : Below B w w1) (n : Nat) : Below B w (w1.drewN n) := ⟨h.os, h.tape, h.output, h.size, h.block⟩
end Go.Proofs.Ythknelpcdoebiaa
