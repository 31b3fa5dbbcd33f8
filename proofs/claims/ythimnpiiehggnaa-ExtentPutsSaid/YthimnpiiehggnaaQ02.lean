/- Texts of this seat, one behind the other: MemH, ERow, Leaf, ESmall, ESort, ECmp. -/
import Derived.Deep.MidRow
import Derived.Deep.AppendLies
import Derived.Deep.CutRange
import Derived.Laws.MakeOwn
import Derived.Laws.OwnMore
import Derived.Maps.AppendAt
import Derived.WalkKit
import Derived.WalkSpells
import Derived.WalkLawsBesides
import Derived.BigQuiet
import Derived.Deep.QuietTactic
import Derived.RegionTactic
import Derived.ChangeAlike
import Derived.Deep.RegionHeld3
import Derived.Test.YthimnpiiehggnaaRows
import Derived.Shelf.SlSortCmp.WholeK
import Derived.Sort.Walk0
import Derived.Test.YthimnpiiehggnaaQ01
/- Arrays in memory, a block known whole, texts and bytes: what several stages share. Nothing of any function. -/
namespace Go.Proofs.Ythimnpiiehggnaa
open Go.RowKit

theorem size_of (s : List UInt8) : (⟨s.toArray⟩ : ByteArray).size = s.length := by simp [ByteArray.size]
theorem byte_at (l : List UInt8) (k : Nat) (h : k < l.length) : (⟨l.toArray⟩ : ByteArray)[k]'(by simpa [ByteArray.size] using h) = l.getD k 0 := by
  have : (⟨l.toArray⟩ : ByteArray)[k]'(by simpa [ByteArray.size] using h) = l[k] := rfl
  rw [this]; simp [List.getD, h]

theorem index_is (S : ByteArray) (i : Nat) (k : Int) (b : UInt8) (hk : (i : Int) = k) (h : S[i]? = some b) (W : World) : (Instr.index 9 (.string S) (.int .i64 k)).run Try.prog W = .ok (.int .u8 (b.toNat : Int)) W := by
  subst hk
  have hlt : i < S.size := by
    rcases Nat.lt_or_ge i S.size with h' | h'
    · exact h'
    · rw [getElem?_neg _ _ (by omega)] at h; cases h
  have hb : S[i] = b := by rw [getElem?_pos S i hlt] at h; exact Option.some.inj h
  rw [run_index_string (h := Try.underlying9), dif_pos ⟨by omega, by omega⟩]
  simp [hb]

theorem xor_byte (a c : UInt8) : bits .xor .u8 (a.toNat : Int) (c.toNat : Int) = ((a ^^^ c).toNat : Int) := by
  have ha := a.toNat_lt
  have hc := c.toNat_lt
  rw [u8_xor_nat _ _ (by omega) (by omega), UInt8.toNat_xor]

theorem at_get (l : List UInt8) (k : Nat) (h : k < l.length) : (⟨l.toArray⟩ : ByteArray)[k]? = some (l.getD k 0) := by
  have hs : k < (⟨l.toArray⟩ : ByteArray).size := by simpa [ByteArray.size] using h
  rw [getElem?_pos (⟨l.toArray⟩ : ByteArray) k hs, byte_at l k h]
theorem setCells_blk {w : World} {g : Nat} {t : TypeId} (l : List Value) : ∀ (o : Nat) (cs : Array Value), Blk w g t cs → ∀ A : List Value, A.length = o → ∀ C : List Value, C.length = l.length → cs = (A ++ C).toArray → Blk (w.setCells g o l) g t (A ++ l).toArray := by
  induction l generalizing w with
  | nil =>
    intro o cs h A hA C hC e
    have : C = [] := List.eq_nil_of_length_eq_zero hC
    subst this
    subst e
    exact h
  | cons v l ih =>
    intro o cs h A hA C hC e
    obtain ⟨c, C', rfl⟩ : ∃ c C', C = c :: C' := by
      cases C with
      | nil => simp at hC
      | cons c C' => exact ⟨c, C', rfl⟩
    have h2 := h.set_ o v
    have e2 : cs.setIfInBounds o v = (A ++ [v] ++ C').toArray := by
      subst e hA
      simp
    have := ih (o + 1) _ h2 (A ++ [v]) (by simp [hA]) C' (by simpa using hC) e2
    simpa [World.setCells] using this
theorem Blk.whole {w : World} {g : Nat} {t : TypeId} {cs : Array Value} (h : Blk w g t cs) (l : List Value) (hl : l.length = cs.size) : Blk (w.setCells g 0 l) g t l.toArray := by
  have := setCells_blk l 0 cs h [] rfl cs.toList (by simp [hl]) (by simp)
  simpa using this
theorem setCells_heap (l : List Value) : ∀ (w : World) (g o k : Nat), k ≠ g → (w.setCells g o l).heap[k]? = w.heap[k]? := by
  induction l with
  | nil => intro w g o k _; rfl
  | cons v l ih => intro w g o k hk; rw [World.setCells, ih _ _ _ _ hk]; exact Below.heap_setCell w ⟨g, o, none⟩ v k hk
theorem Blk.far_ {w : World} {g k : Nat} {t : TypeId} {cs : Array Value} (h : Blk w k t cs) (hk : k ≠ g) (o : Nat) (l : List Value) : Blk (w.setCells g o l) k t cs := (setCells_heap l w g o k hk).trans h
theorem below_setCells {B g : Nat} (hg : B ≤ g) (l : List Value) : ∀ (o : Nat) (w w1 : World), Below B w w1 → Below B w (w1.setCells g o l) := by
  induction l with
  | nil => intro o w w1 h; exact h
  | cons v l ih => intro o w w1 h; exact ih (o + 1) w _ (h.setCell (p := ⟨g, o, none⟩) hg v)
theorem bw {w w1 : World} (h : Below w.heap.size w w1) {g : Nat} (hg : w.heap.size ≤ g) (o : Nat) (l : List Value) : Below w.heap.size w (w1.setCells g o l) := below_setCells hg l o w w1 h
theorem Blk.there {w : World} {g : Nat} {t : TypeId} {cs : Array Value} (h : Blk w g t cs) {n : Nat} (hn : n ≤ cs.size) : w.there g 0 n := fun j hj => by
  rw [Nat.zero_add]
  refine ⟨?_, h.frozen j⟩
  rw [h.cell j]
  have : j < cs.size := by omega
  simp [this]
@[simp] theorem size_setCells (l : List Value) : ∀ (w : World) (g o : Nat), (w.setCells g o l).heap.size = w.heap.size := by
  induction l with
  | nil => intro w g o; rfl
  | cons v l ih => intro w g o; rw [World.setCells, ih]; simp [World.setCell]
theorem heap_alloc_new' (W : World) (o : Obj) {n : Nat} (h : W.heap.size = n) : (W.alloc o).heap[n]? = some o := by subst h; exact heap_alloc_new W o
theorem news_new (W : World) (l : List Value) (t : TypeId) (j : Nat) (u : Value) (hj : l[j]? = some u) : (W.alloc (.cells l.toArray t)).cell? ((⟨W.heap.size, 0, none⟩ : Addr).add j) = some u := by
  rw [Addr.add_mid, Nat.zero_add, cell_of_row _ _ _ _ _ _ (heap_alloc_new W _)]
  simpa using hj
theorem own_alloc {W : World} {base : Nat} {e : TypeId} {size : Nat} {v : Value} {n : Nat} {xs : List Value} (h : W.ownsRow base e size v n xs) (o : Obj) : (W.alloc o).ownsRow base e size v n xs := by
  obtain ⟨h1, h2⟩ := h
  refine ⟨h1, ?_⟩
  rcases h2 with h2 | ⟨g, cap, cur, hv, hg, hh, r⟩
  · exact Or.inl h2
  · exact Or.inr ⟨g, cap, cur, hv, hg, (Below.heap_alloc W o g (Array.getElem?_eq_some_iff.1 hh).1).trans hh, r⟩
theorem bdn' {B : Nat} {a w : World} (h : Below B a w) (n : Nat) : Below B a (w.drewN n) := ⟨h.os, h.tape, h.output, h.size, h.block⟩
theorem drewN_name (w : World) (n : Nat) : ∃ w1, w.drewN n = w1 := ⟨_, rfl⟩
theorem own_nil {w : World} {base g : Nat} {E : TypeId} {z : Nat} (h : w.heap[g]? = some (.cells #[] E (0, 0))) (hb : base ≤ g) : w.ownsRow base E z (.slice (some ⟨g, 0, none⟩) 0 0) 0 [] :=
  ⟨by simp, .inr ⟨g, 0, #[], rfl, hb, h, Nat.le_refl _, Nat.zero_le _, by simp, by simp⟩⟩
theorem info5 : (Try.prog.info? 5).map (fun i => (i.zero, i.size, i.bytes)) = some (some (.int .u8 0), 1, 1) := by kernel_rfl
end Go.Proofs.Ythimnpiiehggnaa
/- Rows of runs in memory. Nothing of any function. -/
namespace Go.Proofs.Ythimnpiiehggnaa
open Go.RowKit

/-- A run's value, its cells, and a row's. -/
abbrev rv (r : Rn) : Value := .agg #[.int .u64 r.f, .int .u64 r.n, .int .i64 r.s]
def rc (r : Rn) : List Value := [.int .u64 r.f, .int .u64 r.n, .int .i64 r.s]
def rcells (L : List Rn) : List Value := L.flatMap rc
theorem rcells_len (L : List Rn) : (rcells L).length = L.length * 3 := by
  induction L with
  | nil => rfl
  | cons p L ih => simp only [rcells, List.flatMap_cons, List.length_append, rc, List.length_cons, List.length_nil] at ih ⊢; omega
theorem rcells_more (L M : List Rn) : rcells (L ++ M) = rcells L ++ rcells M := by simp [rcells]
theorem rcells_snoc (L : List Rn) (r : Rn) : rcells (L ++ [r]) = rcells L ++ [.int .u64 r.f, .int .u64 r.n, .int .i64 r.s] := by simp [rcells, rc]
theorem rcells_three (L : List Rn) : ∀ k, k < L.length → (rcells L)[k * 3]? = some (.int .u64 (L.getD k default).f) ∧ (rcells L)[k * 3 + 1]? = some (.int .u64 (L.getD k default).n) ∧ (rcells L)[k * 3 + 2]? = some (.int .i64 (L.getD k default).s) := by
  induction L with
  | nil => intro k h; cases h
  | cons p L ih =>
    intro k h
    cases k with
    | zero => exact ⟨rfl, rfl, rfl⟩
    | succ k =>
      have := ih k (by simpa using h)
      rw [Nat.succ_mul]
      exact this
theorem rcells_one (L : List Rn) : ∀ u ∈ rcells L, u.oneCell' = true := by
  intro u hu
  simp only [rcells, List.mem_flatMap] at hu
  obtain ⟨x, _, hx⟩ := hu
  simp [rc] at hx
  rcases hx with rfl | rfl | rfl <;> rfl
theorem rgetD_take (L : List Rn) (m j : Nat) (h : j < m) : (L.take m).getD j default = L.getD j default := by
  simp [List.getD, h]
theorem rgetD_drop (L : List Rn) (m j : Nat) : (L.drop m).getD j default = L.getD (m + j) default := by
  simp [List.getD]

/-- A row of runs that can be read: where it lies, if it has any. -/
def ER (w : World) (A : Option Addr) (L : List Rn) : Prop :=
  ∀ j, j < L.length → ∃ g off, A = some ⟨g, off, none⟩ ∧ w.cell? ⟨g, off + j * 3, none⟩ = some (.int .u64 (L.getD j default).f) ∧ w.cell? ⟨g, off + j * 3 + 1, none⟩ = some (.int .u64 (L.getD j default).n) ∧ w.cell? ⟨g, off + j * 3 + 2, none⟩ = some (.int .i64 (L.getD j default).s)
section
variable {w w' : World} {A : Option Addr} {L : List Rn}
theorem ER.later (h : ER w A L) (hb : Below w.heap.size w w') : ER w' A L := fun j hj => by
  obtain ⟨g, off, e, h0, h1, h2⟩ := h j hj
  exact ⟨g, off, e, cell_later hb h0, cell_later hb h1, cell_later hb h2⟩
theorem ER.nil (w : World) (A : Option Addr) : ER w A [] := fun j hj => absurd hj (by simp)
theorem ER.lt {g off : Nat} (h : ER w (some ⟨g, off, none⟩) L) (hp : 0 < L.length) : g < w.heap.size := by
  obtain ⟨g', off', e, h0, _⟩ := h 0 hp
  obtain ⟨rfl, rfl⟩ : g = g' ∧ off = off' := by injection e with e; injection e with e1 e2; exact ⟨e1, e2⟩
  exact World.block_lt_of_cell? _ _ h0
theorem ER.take (h : ER w A L) (m : Nat) : ER w A (L.take m) := fun j hj => by
  rw [List.length_take] at hj
  obtain ⟨g, off, e, h0, h1, h2⟩ := h j (by omega)
  rw [← rgetD_take L m j (by omega)] at h0 h1 h2
  exact ⟨g, off, e, h0, h1, h2⟩
theorem ER.drop {g off : Nat} (h : ER w (some ⟨g, off, none⟩) L) (m : Nat) : ER w (some ⟨g, off + m * 3, none⟩) (L.drop m) := fun j hj => by
  rw [List.length_drop] at hj
  obtain ⟨g', off', e, h0, h1, h2⟩ := h (m + j) (by omega)
  obtain ⟨rfl, rfl⟩ : g = g' ∧ off = off' := by injection e with e; injection e with e1 e2; exact ⟨e1, e2⟩
  rw [Nat.add_mul, ← Nat.add_assoc, ← rgetD_drop] at h0 h1 h2
  exact ⟨g, off + m * 3, rfl, h0, h1, h2⟩
/-- .. kept where its block is. -/
theorem ER.kp (h : ER w A L) (hk : ∀ g off, A = some ⟨g, off, none⟩ → w'.heap[g]? = w.heap[g]?) : ER w' A L := fun j hj => by
  obtain ⟨g, off, e, h0, h1, h2⟩ := h j hj
  have e9 := hk g off e
  have hc : ∀ o, w'.cell? ⟨g, o, none⟩ = w.cell? ⟨g, o, none⟩ := fun o => by simp only [World.cell?, e9]
  exact ⟨g, off, e, (hc _).trans h0, (hc _).trans h1, (hc _).trans h2⟩
/-- .. and as cells. -/
theorem ER.cells {a : Addr} (h : ER w (some a) L) : ∀ j u, (rcells L)[j]? = some u → w.cell? (a.add j) = some u := by
  intro j u hu
  have hj : j < (rcells L).length := (List.getElem?_eq_some_iff.1 hu).1
  rw [rcells_len] at hj
  obtain ⟨g, off, e, h0, h1, h2⟩ := h (j / 3) (by omega)
  obtain rfl : a = ⟨g, off, none⟩ := Option.some.inj e
  obtain ⟨p0, p1, p2⟩ := rcells_three L (j / 3) (by omega)
  rw [Go.WideShapes.add_plain]
  rcases (show j = j / 3 * 3 ∨ j = j / 3 * 3 + 1 ∨ j = j / 3 * 3 + 2 by omega) with hj2 | hj2 | hj2
  · rw [← hj2] at p0 h0
    rw [h0, ← p0, hu]
  · rw [← hj2] at p1
    rw [Nat.add_assoc, ← hj2] at h1
    rw [h1, ← p1, hu]
  · rw [← hj2] at p2
    rw [Nat.add_assoc, ← hj2] at h2
    rw [h2, ← p2, hu]
end
theorem blk_ER {W : World} {g : Nat} {t : TypeId} {L : List Rn} {cur : Array Value} (h : Blk W g t cur) (hc : cur.toList.take (L.length * 3) = rcells L) : ER W (some ⟨g, 0, none⟩) L := fun j hj => by
  obtain ⟨p0, p1, p2⟩ := rcells_three L j hj
  rw [← hc, List.getElem?_take] at p0 p1 p2
  rw [if_pos (by omega), Array.getElem?_toList] at p0 p1 p2
  exact ⟨g, 0, rfl, by rw [Nat.zero_add, h.cell, p0], by rw [Nat.zero_add, h.cell, p1], by rw [Nat.zero_add, h.cell, p2]⟩
theorem own_ER {W : World} {base : Nat} {t : TypeId} {A : Option Addr} {n c : Nat} {L : List Rn} (h : W.ownsRow base t 3 (.slice A n c) n (rcells L)) (hl : L.length = n) : ER W A L := by
  rcases h.2 with ⟨h2, h3⟩ | ⟨g, cap, cur, hv, _, hh, _, _, _, h7⟩
  · obtain rfl : L = [] := List.eq_nil_of_length_eq_zero (by omega)
    exact ER.nil _ _
  · injection hv with e1 e2 e3
    subst e1
    exact blk_ER (cur := cur) hh (by rw [hl]; exact h7)
theorem infoE : (Try.prog.info? 47).map (fun i => (i.zero, i.size, i.bytes)) = some (some (.agg #[.int .u64 0, .int .u64 0, .int .i64 0]), 3, 24) := by kernel_rfl
end Go.Proofs.Ythimnpiiehggnaa
/- Contracts of the small functions of package span and of the reference, each for every input. -/
namespace Go.Proofs.Ythimnpiiehggnaa
open Go.RowKit

/-- Why a span may not be: by number. -/
def Bad (f n e : Int) : Prop := (n = 0 ∧ e = 1) ∨ (1 ≤ n ∧ 18446744073709551616 < f + n ∧ e = 2)
theorem ret_i64 {a b : Int} (h : a = b) : Ending.returned (.int .i64 a) = .returned (.int .i64 b) := by rw [h]

set_option maxHeartbeats 400000 in
theorem check_ok (f n : Int) (w : World) (f0 : 0 ≤ f) (n1 : 1 ≤ n) (fn : f + n ≤ 18446744073709551616) :
    Calls Try.prog 55 #[.agg #[.int .u64 f, .int .u64 n]] w fun e w' => e = .returned (.int .i64 0) ∧ Below w.heap.size w w' := by
  have n0 : n ≠ 0 := by omega
  go_enter Try.func55, Try.ntmps55
  go_wp2
  go_ret
  exact ⟨rfl, (Below.refl _ _).alloc (Nat.le_refl _) _⟩
set_option maxHeartbeats 400000 in
theorem check_bad (f n e : Int) (w : World) (f0 : 0 ≤ f) (f1 : f ≤ 18446744073709551615) (n1 : n ≤ 18446744073709551615) (h : Bad f n e) :
    Calls Try.prog 55 #[.agg #[.int .u64 f, .int .u64 n]] w fun e' w' => e' = .returned (.int .i64 e) ∧ Below w.heap.size w w' := by
  rcases h with ⟨rfl, rfl⟩ | ⟨h, h', rfl⟩
  · go_enter Try.func55, Try.ntmps55
    go_wp2
    go_ret
    exact ⟨rfl, (Below.refl _ _).alloc (Nat.le_refl _) _⟩
  · have n0 : n ≠ 0 := by omega
    go_enter Try.func55, Try.ntmps55
    go_wp2
    go_ret
    exact ⟨rfl, (Below.refl _ _).alloc (Nat.le_refl _) _⟩

set_option maxHeartbeats 400000 in
theorem rcheck_ok (f n : Int) (w : World) (f0 : 0 ≤ f) (n1 : 1 ≤ n) (fn : f + n ≤ 18446744073709551616) :
    Calls Try.prog 32 #[.agg #[.int .u64 f, .int .u64 n]] w fun e w' => e = .returned (.int .i64 0) ∧ Below w.heap.size w w' := by
  have n0 : n ≠ 0 := by omega
  go_enter Try.func32, Try.ntmps32
  go_wp2
  go_ret
  exact ⟨rfl, (Below.refl _ _).alloc (Nat.le_refl _) _⟩
set_option maxHeartbeats 400000 in
theorem rcheck_bad (f n e : Int) (w : World) (f0 : 0 ≤ f) (f1 : f ≤ 18446744073709551615) (n1 : n ≤ 18446744073709551615) (h : Bad f n e) :
    Calls Try.prog 32 #[.agg #[.int .u64 f, .int .u64 n]] w fun e' w' => e' = .returned (.int .i64 e) ∧ Below w.heap.size w w' := by
  rcases h with ⟨rfl, rfl⟩ | ⟨h, h', rfl⟩
  · go_enter Try.func32, Try.ntmps32
    go_wp2
    go_ret
    exact ⟨rfl, (Below.refl _ _).alloc (Nat.le_refl _) _⟩
  · have n0 : n ≠ 0 := by omega
    go_enter Try.func32, Try.ntmps32
    go_wp2
    go_ret
    exact ⟨rfl, (Below.refl _ _).alloc (Nat.le_refl _) _⟩

set_option maxHeartbeats 400000 in
theorem rlast_ok (f n : Int) (w : World) (f0 : 0 ≤ f) (n1 : 1 ≤ n) (fn : f + n ≤ 18446744073709551616) :
    Calls Try.prog 33 #[.agg #[.int .u64 f, .int .u64 n]] w fun e w' => e = .returned (.int .u64 (f + (n - 1))) ∧ Below w.heap.size w w' := by
  go_enter Try.func33, Try.ntmps33
  go_wp2
  go_ret
  exact ⟨rfl, (Below.refl _ _).alloc (Nat.le_refl _) _⟩

set_option maxHeartbeats 400000 in
theorem last_ok (f n : Int) (w : World) (f0 : 0 ≤ f) (n1 : 1 ≤ n) (fn : f + n ≤ 18446744073709551616) :
    Calls Try.prog 39 #[.agg #[.int .u64 f, .int .u64 n]] w fun e w' => e = .returned (.tuple #[.int .u64 (f + (n - 1)), .int .i64 0]) ∧ Below w.heap.size w w' := by
  go_enter Try.func39, Try.ntmps39
  go_wp2_with (go_at_call 55; refine (check_ok f n _ f0 n1 fn).mono ?_; rintro e w1 ⟨rfl, hb⟩; obtain ⟨hc, hf⟩ := bcell hb)
  go_ret2
  exact ⟨rfl, ((Below.refl _ _).alloc (Nat.le_refl _) _).trans (hb.mono (by simp))⟩
set_option maxHeartbeats 400000 in
theorem last_bad (f n e : Int) (w : World) (f0 : 0 ≤ f) (f1 : f ≤ 18446744073709551615) (n1 : n ≤ 18446744073709551615) (h : Bad f n e) (e1 : 1 ≤ e) :
    Calls Try.prog 39 #[.agg #[.int .u64 f, .int .u64 n]] w fun e' w' => e' = .returned (.tuple #[.int .u64 0, .int .i64 e]) ∧ Below w.heap.size w w' := by
  go_enter Try.func39, Try.ntmps39
  go_wp2_with (go_at_call 55; refine (check_bad f n e _ f0 f1 n1 h).mono ?_; rintro e w1 ⟨rfl, hb⟩; obtain ⟨hc, hf⟩ := bcell hb)
  go_ret2
  exact ⟨rfl, ((Below.refl _ _).alloc (Nat.le_refl _) _).trans (hb.mono (by simp))⟩
end Go.Proofs.Ythimnpiiehggnaa
/- The contracts of isState, endOf, spanOf, runOf, hole, checkBlocks, mayBe and follows. -/
namespace Go.Proofs.Ythimnpiiehggnaa
open Go.RowKit

theorem eend_any (r : Rn) (w : World) (h0 : 0 ≤ r.f) (h1 : 0 ≤ r.n) (h2 : r.f + r.n ≤ 18446744073709551615) :
    Calls Try.prog 22 #[rv r] w fun e w' => e = .returned (.int .u64 (r.f + r.n)) ∧ Below w.heap.size w w' := by
  obtain ⟨f, n, s⟩ := r
  simp only at h0 h1 h2 ⊢
  go_enter Try.func22, Try.ntmps22
  go_wp2
  go_ret
  exact ⟨rfl, ba (Below.refl _ _) _⟩
theorem espan_any (r : Rn) (w : World) :
    Calls Try.prog 37 #[rv r] w fun e w' => e = .returned (.agg #[.int .u64 r.f, .int .u64 r.n]) ∧ Below w.heap.size w w' := by
  obtain ⟨f, n, s⟩ := r
  go_enter Try.func37, Try.ntmps37
  go_wp2
  refine bodyPost_ret (v := .agg #[.int .u64 f, .int .u64 n]) (by simp [results, Try.results37, go_sem]) rfl ⟨rfl, ?_⟩
  exact ba (ba (Below.refl _ _) _) _
theorem erun_any (f n s : Int) (w : World) :
    Calls Try.prog 38 #[.agg #[.int .u64 f, .int .u64 n], .int .i64 s] w fun e w' => e = .returned (rv ⟨f, n, s⟩) ∧ Below w.heap.size w w' := by
  go_enter Try.func38, Try.ntmps38
  go_wp2
  refine bodyPost_ret (v := rv ⟨f, n, s⟩) (by simp [results, Try.results38, go_sem]) rfl ⟨rfl, ?_⟩
  exact ba (ba (Below.refl _ _) _) _
theorem ehole_any (f b : Int) (w : World) (h0 : 0 ≤ f) (h1 : f ≤ b) (h2 : b ≤ 18446744073709551615) :
    Calls Try.prog 50 #[.int .u64 f, .int .u64 b] w fun e w' => e = .returned (rv ⟨f, b - f, 0⟩) ∧ Below w.heap.size w w' := by
  go_enter Try.func50, Try.ntmps50
  go_wp2
  refine bodyPost_ret (v := rv ⟨f, b - f, 0⟩) (by simp [results, Try.results50, go_sem]) rfl ⟨rfl, ?_⟩
  exact ba (Below.refl _ _) _
theorem eist_any (s : Int) (w : World) :
    Calls Try.prog 27 #[.int .i64 s] w fun e w' => e = .returned (.bool (decide (s = 0 ∨ s = 1 ∨ s = 2))) ∧ w' = w := by
  by_cases h0 : s = 0
  · subst h0
    go_enter Try.func27, Try.ntmps27
    go_wp2
    go_ret
    exact ⟨rfl, rfl⟩
  · by_cases h1 : s = 1
    · subst h1
      go_enter Try.func27, Try.ntmps27
      go_wp2
      go_ret
      exact ⟨rfl, rfl⟩
    · by_cases h2 : s = 2
      · subst h2
        go_enter Try.func27, Try.ntmps27
        go_wp2
        go_ret
        exact ⟨rfl, rfl⟩
      · have e0 : (s == 0) = false := by simpa using h0
        have e1 : (s == 1) = false := by simpa using h1
        have e2 : (s == 2) = false := by simpa using h2
        have e3 : decide (s = 0 ∨ s = 1 ∨ s = 2) = false := by simp [h0, h1, h2]
        rw [e3]
        clear h0 h1 h2 e3
        go_enter Try.func27, Try.ntmps27
        go_wp2
        go_ret
        exact ⟨rfl, rfl⟩
/-- Why a span is not one of blocks. -/
def ewhy (f n : Int) : Int := if n = 0 then 1 else if f + n ≤ 576460752303423488 then 0 else 2
theorem ecb_any (f n : Int) (w : World) (f0 : 0 ≤ f) (f1 : f ≤ 18446744073709551615) (n0 : 0 ≤ n) (n1 : n ≤ 18446744073709551615) :
    Calls Try.prog 28 #[.agg #[.int .u64 f, .int .u64 n]] w fun e w' => e = .returned (.int .i64 (ewhy f n)) ∧ Below w.heap.size w w' := by
  by_cases hn : n = 0
  · have e : ewhy f n = 1 := by unfold ewhy; rw [if_pos hn]
    rw [e]
    have HF := Lib.hid (fun W => last_bad f n 1 W f0 f1 n1 (.inl ⟨hn, rfl⟩) (by omega))
    clear hn e
    go_enter Try.func28, Try.ntmps28
    go_wp2_with fail
    refine (HF.out _).mono ?_
    rintro e w1 ⟨rfl, hb⟩
    go_wp2
    go_ret
    exact ⟨rfl, bt (ba (Below.refl _ _) _) hb⟩
  · by_cases hx : 18446744073709551616 < f + n
    · have e : ewhy f n = 2 := by unfold ewhy; rw [if_neg hn, if_neg (by omega)]
      rw [e]
      have HF := Lib.hid (fun W => last_bad f n 2 W f0 f1 n1 (.inr ⟨by omega, hx, rfl⟩) (by omega))
      clear hn hx e
      go_enter Try.func28, Try.ntmps28
      go_wp2_with fail
      refine (HF.out _).mono ?_
      rintro e w1 ⟨rfl, hb⟩
      go_wp2
      go_ret
      exact ⟨rfl, bt (ba (Below.refl _ _) _) hb⟩
    · have HF := Lib.hid (fun W => last_ok f n W f0 (by omega) (by omega))
      by_cases hy : f + n ≤ 576460752303423488
      · have e : ewhy f n = 0 := by unfold ewhy; rw [if_neg hn, if_pos hy]
        rw [e]
        have e1 : decide (576460752303423488 ≤ f + (n - 1)) = false := by simp; omega
        clear e hn hx
        go_enter Try.func28, Try.ntmps28
        go_wp2_with fail
        refine (HF.out _).mono ?_
        rintro e w1 ⟨rfl, hb⟩
        go_wp2
        go_ret
        exact ⟨rfl, bt (ba (Below.refl _ _) _) hb⟩
      · have e : ewhy f n = 2 := by unfold ewhy; rw [if_neg hn, if_neg hy]
        rw [e]
        have e1 : 576460752303423488 ≤ f + (n - 1) := by omega
        clear e hn hx hy
        go_enter Try.func28, Try.ntmps28
        go_wp2_with fail
        refine (HF.out _).mono ?_
        rintro e w1 ⟨rfl, hb⟩
        go_wp2
        go_ret
        exact ⟨rfl, bt (ba (Below.refl _ _) _) hb⟩
theorem ewhy_ok (f n : Int) (n0 : 0 ≤ n) : ewhy f n = 0 ↔ 1 ≤ n ∧ f + n ≤ 576460752303423488 := by
  unfold ewhy
  split
  · constructor <;> intro h <;> omega
  · split
    · constructor <;> intro h <;> omega
    · constructor <;> intro h <;> omega
theorem emay_any (r : Rn) (w : World) (f0 : 0 ≤ r.f) (f1 : r.f ≤ 18446744073709551615) (n0 : 0 ≤ r.n) (n1 : r.n ≤ 18446744073709551615) :
    Calls Try.prog 23 #[rv r] w fun e w' => e = .returned (.bool (decide (EOk r))) ∧ Below w.heap.size w w' := by
  have HS := Lib.hid (fun W => eist_any r.s W)
  have HC := Lib.hid (fun W => ecb_any r.f r.n W f0 f1 n0 n1)
  have HP := Lib.hid (fun W => espan_any r W)
  have HW := Lib.hid (ewhy_ok r.f r.n n0)
  by_cases h1 : r.s = 1 ∨ r.s = 2
  · have e0 : decide (r.s = 0 ∨ r.s = 1 ∨ r.s = 2) = true := decide_eq_true (.inr h1)
    rw [e0] at HS
    have e1 : (r.s == 0) = false := by simp; omega
    have e2 : (r.s != 0) = true := by simp; omega
    have e3 : decide (EOk r) = (ewhy r.f r.n == 0) := by
      have h9 := HW.out
      by_cases h : ewhy r.f r.n = 0
      · have := h9.1 h
        rw [h]
        exact decide_eq_true ⟨f0, this.1, this.2, h1⟩
      · have h8 : (ewhy r.f r.n == 0) = false := by simpa using h
        rw [h8]
        exact decide_eq_false fun k => h (h9.2 ⟨k.2.1, k.2.2.1⟩)
    rw [e3]
    obtain ⟨f, n, s⟩ := r
    simp only at HS HC HP e1 e2 ⊢
    generalize ewhy f n = y at HC ⊢
    clear h1 e3 HW e0 f0 f1 n0 n1
    go_enter Try.func23, Try.ntmps23
    go_wp2_with fail
    refine (HS.out _).mono ?_
    rintro e w1 ⟨rfl, rfl⟩
    go_wp2_with fail
    refine (HP.out _).mono ?_
    rintro e w1 ⟨rfl, hb⟩
    go_wp2_with fail
    refine (HC.out _).mono ?_
    rintro e w2 ⟨rfl, hb2⟩
    go_wp2
    go_ret
    exact ⟨rfl, bt (bt (ba (Below.refl _ _) _) hb) hb2⟩
  · have e3 : decide (EOk r) = false := decide_eq_false fun k => h1 k.2.2.2
    rw [e3]
    by_cases h0 : r.s = 0
    · have e0 : decide (r.s = 0 ∨ r.s = 1 ∨ r.s = 2) = true := decide_eq_true (.inl h0)
      rw [e0] at HS
      obtain ⟨f, n, s⟩ := r
      simp only at HS h0 ⊢
      subst h0
      clear h1 e3 HW e0 HC HP f0 f1 n0 n1
      go_enter Try.func23, Try.ntmps23
      go_wp2_with fail
      refine (HS.out _).mono ?_
      rintro e w1 ⟨rfl, rfl⟩
      go_wp2
      go_ret
      exact ⟨rfl, ba (Below.refl _ _) _⟩
    · have e0 : decide (r.s = 0 ∨ r.s = 1 ∨ r.s = 2) = false := decide_eq_false fun k => by omega
      rw [e0] at HS
      obtain ⟨f, n, s⟩ := r
      simp only at HS ⊢
      clear h1 e3 HW e0 HC HP h0 f0 f1 n0 n1
      go_enter Try.func23, Try.ntmps23
      go_wp2_with fail
      refine (HS.out _).mono ?_
      rintro e w1 ⟨rfl, rfl⟩
      go_wp2
      go_ret
      exact ⟨rfl, ba (Below.refl _ _) _⟩
/-- Cells that stay as they were. -/
theorem ecell {A B : World} (h : Below A.heap.size A B) {b o : Nat} {v : Value} (hc : A.cell? ⟨b, o, none⟩ = some v) : B.cell? ⟨b, o, none⟩ = some v := cell_later h hc
set_option maxHeartbeats 1000000 in
theorem efol_any (r q : Rn) (w : World) (h0 : 0 ≤ r.f) (h1 : 0 ≤ r.n) (h2 : r.f + r.n ≤ 18446744073709551615) :
    Calls Try.prog 24 #[rv r, rv q] w fun e w' => e = .returned (.bool (decide (EFol r q))) ∧ Below w.heap.size w w' := by
  have HE := Lib.hid (fun W => eend_any r W h0 h1 h2)
  clear h0 h1 h2
  have HD : Hid (decide (EFol r q) = if q.f = r.f + r.n then q.s != r.s else decide (r.f + r.n < q.f)) := Lib.hid (by
    by_cases h : q.f = r.f + r.n
    · rw [if_pos h]
      by_cases k : q.s = r.s
      · rw [k]
        simp only [bne_self_eq_false]
        exact decide_eq_false fun j => by rcases j with j | j <;> omega
      · have : (q.s != r.s) = true := by simpa using k
        rw [this]
        exact decide_eq_true (.inr ⟨h.symm, fun e => k e.symm⟩)
    · rw [if_neg h]
      by_cases k : r.f + r.n < q.f
      · rw [decide_eq_true k]
        exact decide_eq_true (.inl k)
      · rw [decide_eq_false k]
        exact decide_eq_false fun j => by rcases j with j | j <;> omega)
  rw [HD.out]
  clear HD
  obtain ⟨f, n, s⟩ := r
  obtain ⟨f2, n2, s2⟩ := q
  simp only at HE ⊢
  generalize f + n = z at HE ⊢
  by_cases hfz : f2 = z
  · subst hfz
    rw [if_pos rfl]
    go_enter Try.func24, Try.ntmps24
    go_wp2_with fail
    have HB0 : Hid (Below w.heap.size w ((w.alloc (.cells #[.int .u64 f, .int .u64 n, .int .i64 s] 47)).alloc (.cells #[.int .u64 f2, .int .u64 n2, .int .i64 s2] 47))) := Lib.hid (ba (ba (Below.refl _ _) _) _)
    have B1 : Blk ((w.alloc (.cells #[.int .u64 f, .int .u64 n, .int .i64 s] 47)).alloc (.cells #[.int .u64 f2, .int .u64 n2, .int .i64 s2] 47)) w.heap.size 47 #[.int .u64 f, .int .u64 n, .int .i64 s] := (Blk.new w 47 #[.int .u64 f, .int .u64 n, .int .i64 s]).alloc _
    have B2 : Blk ((w.alloc (.cells #[.int .u64 f, .int .u64 n, .int .i64 s] 47)).alloc (.cells #[.int .u64 f2, .int .u64 n2, .int .i64 s2] 47)) (w.heap.size + 1) 47 #[.int .u64 f2, .int .u64 n2, .int .i64 s2] := Blk.newAt (by simp) _ _
    generalize ((w.alloc (.cells #[.int .u64 f, .int .u64 n, .int .i64 s] 47)).alloc (.cells #[.int .u64 f2, .int .u64 n2, .int .i64 s2] 47)) = W0 at HB0 B1 B2 ⊢
    have a0 : W0.cell? ⟨w.heap.size, 0, none⟩ = some (.int .u64 f) := B1.cell 0
    have a1 : W0.cell? ⟨w.heap.size, 1, none⟩ = some (.int .u64 n) := B1.cell 1
    have a2 : W0.cell? ⟨w.heap.size, 2, none⟩ = some (.int .i64 s) := B1.cell 2
    have b0 : W0.cell? ⟨w.heap.size + 1, 0, none⟩ = some (.int .u64 f2) := B2.cell 0
    have b2 : W0.cell? ⟨w.heap.size + 1, 2, none⟩ = some (.int .i64 s2) := B2.cell 2
    clear B1 B2
    go_region_held3 (fun W => W.cell? ⟨w.heap.size, 0, none⟩ = some (.int .u64 f) ∧ W.cell? ⟨w.heap.size, 1, none⟩ = some (.int .u64 n) ∧ W.cell? ⟨w.heap.size, 2, none⟩ = some (.int .i64 s) ∧ W.cell? ⟨w.heap.size + 1, 0, none⟩ = some (.int .u64 f2) ∧ W.cell? ⟨w.heap.size + 1, 2, none⟩ = some (.int .i64 s2) ∧ Below W0.heap.size W0 W) (first | exact ⟨a0, a1, a2, b0, b2, (Below.refl _ _).drew⟩ | assumption) (first | (go_at_call 22; refine (HE.out _).mono ?_; rintro e w1 ⟨rfl, hb⟩; have hbS : w1.cell? ⟨w.heap.size, 0, none⟩ = some (.int .u64 f) ∧ w1.cell? ⟨w.heap.size, 1, none⟩ = some (.int .u64 n) ∧ w1.cell? ⟨w.heap.size, 2, none⟩ = some (.int .i64 s) ∧ w1.cell? ⟨w.heap.size + 1, 0, none⟩ = some (.int .u64 f2) ∧ w1.cell? ⟨w.heap.size + 1, 2, none⟩ = some (.int .i64 s2) ∧ Below W0.heap.size W0 w1 := ⟨ecell hb a0, ecell hb a1, ecell hb a2, ecell hb b0, ecell hb b2, bt ((Below.refl _ _).drew) hb⟩))
    obtain ⟨_, _, d2, _, d5, hb3⟩ := hbS
    go_wp2
    go_ret
    exact ⟨rfl, bt HB0.out hb3⟩
  · rw [if_neg hfz]
    have hz1 : (f2 == z) = false := by simpa using hfz
    clear hfz
    go_enter Try.func24, Try.ntmps24
    go_wp2_with fail
    have HB0 : Hid (Below w.heap.size w ((w.alloc (.cells #[.int .u64 f, .int .u64 n, .int .i64 s] 47)).alloc (.cells #[.int .u64 f2, .int .u64 n2, .int .i64 s2] 47))) := Lib.hid (ba (ba (Below.refl _ _) _) _)
    have B1 : Blk ((w.alloc (.cells #[.int .u64 f, .int .u64 n, .int .i64 s] 47)).alloc (.cells #[.int .u64 f2, .int .u64 n2, .int .i64 s2] 47)) w.heap.size 47 #[.int .u64 f, .int .u64 n, .int .i64 s] := (Blk.new w 47 #[.int .u64 f, .int .u64 n, .int .i64 s]).alloc _
    have B2 : Blk ((w.alloc (.cells #[.int .u64 f, .int .u64 n, .int .i64 s] 47)).alloc (.cells #[.int .u64 f2, .int .u64 n2, .int .i64 s2] 47)) (w.heap.size + 1) 47 #[.int .u64 f2, .int .u64 n2, .int .i64 s2] := Blk.newAt (by simp) _ _
    generalize ((w.alloc (.cells #[.int .u64 f, .int .u64 n, .int .i64 s] 47)).alloc (.cells #[.int .u64 f2, .int .u64 n2, .int .i64 s2] 47)) = W0 at HB0 B1 B2 ⊢
    have a0 : W0.cell? ⟨w.heap.size, 0, none⟩ = some (.int .u64 f) := B1.cell 0
    have a1 : W0.cell? ⟨w.heap.size, 1, none⟩ = some (.int .u64 n) := B1.cell 1
    have a2 : W0.cell? ⟨w.heap.size, 2, none⟩ = some (.int .i64 s) := B1.cell 2
    have b0 : W0.cell? ⟨w.heap.size + 1, 0, none⟩ = some (.int .u64 f2) := B2.cell 0
    have b2 : W0.cell? ⟨w.heap.size + 1, 2, none⟩ = some (.int .i64 s2) := B2.cell 2
    clear B1 B2
    go_region_held3 (fun W => W.cell? ⟨w.heap.size, 0, none⟩ = some (.int .u64 f) ∧ W.cell? ⟨w.heap.size, 1, none⟩ = some (.int .u64 n) ∧ W.cell? ⟨w.heap.size, 2, none⟩ = some (.int .i64 s) ∧ W.cell? ⟨w.heap.size + 1, 0, none⟩ = some (.int .u64 f2) ∧ W.cell? ⟨w.heap.size + 1, 2, none⟩ = some (.int .i64 s2) ∧ Below W0.heap.size W0 W) (first | exact ⟨a0, a1, a2, b0, b2, (Below.refl _ _).drew⟩ | assumption) (first | (go_at_call 22; refine (HE.out _).mono ?_; rintro e w1 ⟨rfl, hb⟩; have hbS : w1.cell? ⟨w.heap.size, 0, none⟩ = some (.int .u64 f) ∧ w1.cell? ⟨w.heap.size, 1, none⟩ = some (.int .u64 n) ∧ w1.cell? ⟨w.heap.size, 2, none⟩ = some (.int .i64 s) ∧ w1.cell? ⟨w.heap.size + 1, 0, none⟩ = some (.int .u64 f2) ∧ w1.cell? ⟨w.heap.size + 1, 2, none⟩ = some (.int .i64 s2) ∧ Below W0.heap.size W0 w1 := ⟨ecell hb a0, ecell hb a1, ecell hb a2, ecell hb b0, ecell hb b2, bt ((Below.refl _ _).drew) hb⟩))
    obtain ⟨d0, d1, d2, d3, d5, hb3⟩ := hbS
    have HB1 := Lib.hid (bt HB0.out hb3)
    clear hb3 hb HB0 a0 a1 a2 b0 b2
    go_wp2_with fail
    go_region_held3 (fun W => W.cell? ⟨w.heap.size, 0, none⟩ = some (.int .u64 f) ∧ W.cell? ⟨w.heap.size, 1, none⟩ = some (.int .u64 n) ∧ W.cell? ⟨w.heap.size, 2, none⟩ = some (.int .i64 s) ∧ W.cell? ⟨w.heap.size + 1, 0, none⟩ = some (.int .u64 f2) ∧ W.cell? ⟨w.heap.size + 1, 2, none⟩ = some (.int .i64 s2) ∧ Below w1.heap.size w1 W) (first | exact ⟨d0, d1, d2, d3, d5, (Below.refl _ _).drew⟩ | assumption) (first | (go_at_call 22; refine (HE.out _).mono ?_; rintro e w2 ⟨rfl, hc⟩; have hcS : w2.cell? ⟨w.heap.size, 0, none⟩ = some (.int .u64 f) ∧ w2.cell? ⟨w.heap.size, 1, none⟩ = some (.int .u64 n) ∧ w2.cell? ⟨w.heap.size, 2, none⟩ = some (.int .i64 s) ∧ w2.cell? ⟨w.heap.size + 1, 0, none⟩ = some (.int .u64 f2) ∧ w2.cell? ⟨w.heap.size + 1, 2, none⟩ = some (.int .i64 s2) ∧ Below w1.heap.size w1 w2 := ⟨ecell hc d0, ecell hc d1, ecell hc d2, ecell hc d3, ecell hc d5, bt ((Below.refl _ _).drew) hc⟩))
    obtain ⟨_, _, _, _, _, hb4⟩ := hcS
    go_wp2
    go_ret
    exact ⟨rfl, bt HB1.out hb4⟩
end Go.Proofs.Ythimnpiiehggnaa
/- slices.SortFunc, as it stands in this program: the numbers under which the library's contract finds it. -/
namespace Go.Proofs.Ythimnpiiehggnaa
open Go.Shelf
def sortR_ren : Go.Shelf.Ren := ⟨fun | 6 => 43 | 15 => 59 | 14 => 58 | 28 => 71 | 29 => 72 | 20 => 63 | 21 => 64 | 22 => 65 | 23 => 66 | 24 => 67 | 25 => 68 | 26 => 69 | 27 => 70 | 46 => 73 | 47 => 74 | 48 => 75 | 49 => 76 | 50 => 77 | 57 => 78 | n => n, fun | 22 => 22 | 24 => 47 | 25 => 70 | 3 => 3 | 39 => 89 | 0 => 0 | 53 => 103 | 55 => 23 | 4 => 4 | 46 => 96 | 45 => 95 | 50 => 100 | 5 => 5 | 9 => 9 | 66 => 105 | 70 => 109 | 76 => 111 | 77 => 112 | n => n, fun | n => n⟩
set_option maxHeartbeats 4000000 in
theorem sortR : Go.Proofs.SlLaysF0.n6 Try.prog sortR_ren := {
  mixed := by kernel_rfl,
  f6 := ⟨Try.f43.name, by decide, Try.func43.trans (congrArg some (by kernel_rfl))⟩,
  f14 := ⟨Try.f58.name, by decide, Try.func58.trans (congrArg some (by kernel_rfl))⟩,
  f15 := Try.func59.trans (congrArg some (by kernel_rfl)),
  f20 := ⟨Try.f63.name, by decide, Try.func63.trans (congrArg some (by kernel_rfl))⟩,
  f21 := ⟨Try.f64.name, by decide, Try.func64.trans (congrArg some (by kernel_rfl))⟩,
  f22 := ⟨Try.f65.name, by decide, Try.func65.trans (congrArg some (by kernel_rfl))⟩,
  f23 := ⟨Try.f66.name, by decide, Try.func66.trans (congrArg some (by kernel_rfl))⟩,
  f24 := ⟨Try.f67.name, by decide, Try.func67.trans (congrArg some (by kernel_rfl))⟩,
  f25 := ⟨Try.f68.name, by decide, Try.func68.trans (congrArg some (by kernel_rfl))⟩,
  f26 := ⟨Try.f69.name, by decide, Try.func69.trans (congrArg some (by kernel_rfl))⟩,
  f27 := ⟨Try.f70.name, by decide, Try.func70.trans (congrArg some (by kernel_rfl))⟩,
  f28 := Try.func71.trans (congrArg some (by kernel_rfl)),
  f29 := Try.func72.trans (congrArg some (by kernel_rfl)),
  f46 := ⟨Try.f73.name, by decide, Try.func73.trans (congrArg some (by kernel_rfl))⟩,
  f47 := Try.func74.trans (congrArg some (by kernel_rfl)),
  f48 := Try.func75.trans (congrArg some (by kernel_rfl)),
  f49 := ⟨Try.f76.name, by decide, Try.func76.trans (congrArg some (by kernel_rfl))⟩,
  f50 := ⟨Try.f77.name, by decide, Try.func77.trans (congrArg some (by kernel_rfl))⟩,
  f57 := ⟨Try.f78.name, by decide, Try.func78.trans (congrArg some (by kernel_rfl))⟩,
  t0 := Try.underlying0,
  a0 := Try.isAgg0,
  z0 := Try.sizeOf0,
  v0 := Try.zeroValue0,
  t3 := Try.underlying3,
  a3 := Try.isAgg3,
  z3 := Try.sizeOf3,
  v3 := Try.zeroValue3,
  t4 := Try.underlying4,
  a4 := Try.isAgg4,
  z4 := Try.sizeOf4,
  v4 := Try.zeroValue4,
  t5 := Try.underlying5,
  a5 := Try.isAgg5,
  z5 := Try.sizeOf5,
  v5 := Try.zeroValue5,
  t9 := Try.underlying9,
  a9 := Try.isAgg9,
  z9 := Try.sizeOf9,
  v9 := Try.zeroValue9,
  t22 := Try.underlying22,
  a22 := Try.isAgg22,
  z22 := Try.sizeOf22,
  v22 := Try.zeroValue22,
  t25 := Try.underlying70,
  a25 := Try.isAgg70,
  z25 := Try.sizeOf70,
  v25 := Try.zeroValue70,
  t39 := Try.underlying89,
  a39 := Try.isAgg89,
  z39 := Try.sizeOf89,
  v39 := Try.zeroValue89,
  t45 := Try.underlying95,
  a45 := Try.isAgg95,
  z45 := Try.sizeOf95,
  v45 := Try.zeroValue95,
  t46 := Try.underlying96,
  a46 := Try.isAgg96,
  z46 := Try.sizeOf96,
  v46 := Try.zeroValue96,
  t50 := Try.underlying100,
  a50 := Try.isAgg100,
  z50 := Try.sizeOf100,
  v50 := Try.zeroValue100,
  t53 := Try.underlying103,
  a53 := Try.isAgg103,
  z53 := Try.sizeOf103,
  v53 := Try.zeroValue103,
  t55 := Try.underlying23,
  a55 := Try.isAgg23,
  z55 := Try.sizeOf23,
  v55 := Try.zeroValue23,
  t66 := Try.underlying105,
  a66 := Try.isAgg105,
  z66 := Try.sizeOf105,
  v66 := Try.zeroValue105,
  t70 := Try.underlying109,
  a70 := Try.isAgg109,
  z70 := Try.sizeOf109,
  v70 := Try.zeroValue109,
  t76 := Try.underlying111,
  a76 := Try.isAgg111,
  z76 := Try.sizeOf111,
  v76 := Try.zeroValue111,
  t77 := Try.underlying112,
  a77 := Try.isAgg112,
  z77 := Try.sizeOf112,
  v77 := Try.zeroValue112 }
end Go.Proofs.Ythimnpiiehggnaa
/- The sort of the pieces: the comparison, and what the sorted row holds. -/
namespace Go.Proofs.Ythimnpiiehggnaa
open Go.RowKit Go.Shelf Go.Lib Go.Sort

/-- cmp.Compare of two numbers. -/
def ec3 (a b : Int) : Int := if a < b then -1 else if b < a then 1 else 0
set_option maxHeartbeats 400000 in
theorem enan_any (a : Int) (w : World) : Calls Try.prog 60 #[.int .u64 a] w fun e w' => e = .returned (.bool false) ∧ w' = w := by
  have h : (a != a) = false := by simp
  go_enter Try.func60, Try.ntmps60
  go_wp2
  go_ret
  exact ⟨rfl, rfl⟩
set_option maxHeartbeats 400000 in
theorem ecompare_any (a b : Int) (w : World) : Calls Try.prog 45 #[.int .u64 a, .int .u64 b] w fun e w' => e = .returned (.int .i64 (ec3 a b)) ∧ w' = w := by
  by_cases h : a < b
  · rw [show ec3 a b = -1 by unfold ec3; rw [if_pos h]]
    go_enter Try.func45, Try.ntmps45
    go_wp2_with (go_at_call 60; refine (enan_any _ _).mono ?_; rintro e w' ⟨rfl, rfl⟩)
    go_ret
    exact ⟨rfl, rfl⟩
  · by_cases h' : b < a
    · rw [show ec3 a b = 1 by unfold ec3; rw [if_neg h, if_pos h']]
      go_enter Try.func45, Try.ntmps45
      go_wp2_with (go_at_call 60; refine (enan_any _ _).mono ?_; rintro e w' ⟨rfl, rfl⟩)
      go_ret
      exact ⟨rfl, rfl⟩
    · rw [show ec3 a b = 0 by unfold ec3; rw [if_neg h, if_neg h']]
      have h1 : a ≤ b := by omega
      have h2 : b ≤ a := by omega
      go_enter Try.func45, Try.ntmps45
      go_wp2_with (go_at_call 60; refine (enan_any _ _).mono ?_; rintro e w' ⟨rfl, rfl⟩)
      go_ret
      exact ⟨rfl, rfl⟩

def cfR (x y : Rn) : Int := ec3 x.f y.f
set_option maxHeartbeats 1000000 in
theorem eclosure (x y : Rn) (W : World) : Calls Try.prog 44 #[.agg #[.int .u64 x.f, .int .u64 x.n, .int .i64 x.s], .agg #[.int .u64 y.f, .int .u64 y.n, .int .i64 y.s]] W fun e w' => e = .returned (.int .i64 (cfR x y)) ∧ ∃ q os', w' = grow (W.drewN q) os' := by
  have hcon := fun W' => ecompare_any x.f y.f W'
  unfold cfR
  generalize ec3 x.f y.f = r at hcon ⊢
  go_enter Try.func44, Try.ntmps44
  go_wp2_with (go_at_call 45; refine (hcon _).mono ?_; rintro e w' ⟨rfl, rfl⟩)
  go_ret
  exact ⟨rfl, 0, _, by rw [alloc_eq_grow, alloc_eq_grow, grow_grow]; rfl⟩
theorem ecmpLays (blk off size : Nat) (w : World) : CmpLays Try.prog 44 #[] rc 3 cfR blk off size w := fun _ _ _ _ x y => eclosure x y _
theorem ltR (x y : Rn) : ltOf cfR x y = decide (x.f < y.f) := by
  unfold ltOf cfR ec3
  by_cases h1 : x.f < y.f
  · simp [h1]
  · by_cases h2 : y.f < x.f <;> simp [h1, h2]
theorem swoR : SWO (ltOf cfR) where
  irrefl x := by rw [ltR]; simp
  trans x y z h1 h2 := by rw [ltR] at *; simp at *; omega
  ntrans x y z h1 h2 := by rw [ltR] at *; simp at *; omega

/-- The row of runs that a slice value owns, as the sort wants it. -/
theorem eholds_owned {w : World} {g : Nat} {cur : Array Value} {e : TypeId} {zs : List Rn} (hb : w.heap[g]? = some (.cells cur e (0, 0))) (ht : cur.toList.take (zs.length * 3) = rcells zs) : HoldsK rc 3 w g 0 zs.toArray := by
  intro t hlt
  rw [size_flatK] at hlt
  have hlt' : t < zs.length * 3 := by simpa using hlt
  refine ⟨?_, by simp [World.frozen?, hb]⟩
  have hz : t / 3 < zs.length := by omega
  rw [get_flatK rc 3 zs.toArray t hlt]
  have hg : zs.toArray[t / 3]! = zs.getD (t / 3) default := by rw [getElem!_pos zs.toArray (t / 3) (by simpa using hz)]; simp [List.getD, hz]
  rw [hg, Nat.zero_add]
  obtain ⟨r0, r1, r2⟩ := rcells_three zs (t / 3) hz
  rw [← ht, List.getElem?_take] at r0 r1 r2
  rw [if_pos (by omega)] at r0 r1 r2
  simp only [Array.getElem?_toList] at r0 r1 r2
  rcases (show t % 3 = 0 ∨ t % 3 = 1 ∨ t % 3 = 2 by omega) with h | h | h
  · have e1 : t / 3 * 3 = t := by omega
    rw [e1] at r0
    rw [h]
    simp only [World.cell?, hb]
    simpa [rc] using r0
  · have e1 : t / 3 * 3 + 1 = t := by omega
    rw [e1] at r1
    rw [h]
    simp only [World.cell?, hb]
    simpa [rc] using r1
  · have e1 : t / 3 * 3 + 2 = t := by omega
    rw [e1] at r2
    rw [h]
    simp only [World.cell?, hb]
    simpa [rc] using r2
/-- What the sort leaves. -/
theorem esorted_world {w : World} {blk : Nat} {d d' : Array Rn} {n : Nat} {os : Array Obj} (hH : HoldsK rc 3 w blk 0 d) (hblk : blk < w.heap.size) (hs : d'.size = d.size) :
    HoldsK rc 3 (sortWorldK rc 3 w blk 0 n d' os) blk 0 d' ∧ ∀ b, b ≤ blk → Below b w (sortWorldK rc 3 w blk 0 n d' os) := by
  refine ⟨holdsK_sortWorldK_c rc 3 w blk 0 d d' n os hH hblk hs, fun b hb => ⟨rfl, rfl, rfl, ?_, fun k hk => ?_⟩⟩
  · simp [sortWorldK, putRowK, putRow, mapBlock, grow]
  · have hk' : k < w.heap.size := by omega
    have hne : blk ≠ k := by omega
    simp [sortWorldK, putRowK, putRow, mapBlock, grow, Array.getElem?_append, hk', Array.getElem_modify, hne]
theorem er_holds {W : World} {g : Nat} {S : List Rn} (h : HoldsK rc 3 W g 0 S.toArray) : ER W (some ⟨g, 0, none⟩) S := by
  intro j hj
  have hj' : j < S.toArray.size := by simpa using hj
  have e : S.toArray[j]! = S.getD j default := by rw [getElem!_pos S.toArray j hj']; simp [List.getD, hj]
  have c0 := (h.cell hj' (show 0 < 3 by omega)).1
  have c1 := (h.cell hj' (show 1 < 3 by omega)).1
  have c2 := (h.cell hj' (show 2 < 3 by omega)).1
  rw [e] at c0 c1 c2
  exact ⟨g, 0, rfl, by simpa [rc] using c0, by simpa [rc] using c1, by simpa [rc] using c2⟩

/-- What the sort leaves: the same runs, rising. -/
def ESortPost (w : World) (g : Nat) (zs : List Rn) (e : Ending) (w' : World) : Prop :=
  e = .returned (.tuple #[]) ∧ ∃ S : List Rn, S.Perm zs ∧ S.Pairwise (fun a b => a.f ≤ b.f) ∧ S.length = zs.length ∧ ER w' (some ⟨g, 0, none⟩) S ∧ ∀ b, b ≤ g → RowKit.Below b w w'
set_option maxHeartbeats 1000000 in
theorem esort_any (g cap : Nat) (zs : List Rn) (w : World) (hH : HoldsK rc 3 w g 0 zs.toArray) (hg : g < w.heap.size) (hl : zs.length < 4611686018427387904) :
    Calls Try.prog 43 #[.slice (some ⟨g, 0, none⟩) zs.length cap, .func (.func 44) #[] #[]] w (ESortPost w g zs) := by
  have eg : ∀ args w, (callFunc 44 args).run Try.prog w = .ok (.enter 44 args) w := enters_of Try.func44 (by kernel_rfl) rfl
  have hcon := AnyQ.slices_SortFunc sortR 3 Try.isAgg47 Try.sizeOf47 rc (fun _ => rfl) (fun x v hv => by simp [rc] at hv; rcases hv with rfl | rfl | rfl <;> rfl) cfR swoR 44 #[] g 0 cap zs.toArray w eg (ecmpLays g 0 zs.toArray.size w) hH hg (by simpa using hl)
  change Calls Try.prog 43 _ _ _ at hcon
  simp only [List.size_toArray] at hcon
  refine hcon.mono ?_
  rintro e w' ⟨rfl, d', n, os, hp, hs, rfl⟩
  obtain ⟨hsz, _, hperm⟩ := hp
  simp only [List.size_toArray] at hsz
  have hw := esorted_world (n := n) (os := os) hH hg (d' := d') (by simpa using hsz)
  have e1 : d'.toList.length = zs.length := by simpa using hsz
  have e2 : d'.extract 0 zs.length = d' := by rw [← hsz]; simp
  have e3 : zs.toArray.extract 0 zs.length = zs.toArray := by simp
  rw [e2, e3] at hperm
  refine ⟨rfl, d'.toList, by simpa using hperm, ?_, e1, ?_, hw.2⟩
  · refine List.pairwise_iff_getElem.2 fun i j hi hj hij => ?_
    have := hs i j (Nat.zero_le _) hij (by omega)
    rw [ltR] at this
    have hi' : i < d'.size := by simpa using hi
    have hj' : j < d'.size := by simpa using hj
    rw [getElem!_pos d' i hi', getElem!_pos d' j hj'] at this
    simpa using this
  · refine er_holds ?_
    simpa using hw.1
end Go.Proofs.Ythimnpiiehggnaa
