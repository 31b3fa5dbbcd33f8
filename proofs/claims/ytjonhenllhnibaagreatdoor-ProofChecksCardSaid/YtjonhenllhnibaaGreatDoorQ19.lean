/- Texts of this seat, one behind the other: QMath, QRow, QApp, QClone. -/
import Derived.Laws.ResultCell
import Derived.Lib.Hide
import Derived.Lib.AppendZeros
import Derived.BigFrame
import Derived.Test.YtjonhenllhnibaaGreatDoorQ01
/- Rings in plain lists: the slot of a text, the texts of a ring, one text more, some fewer. Nothing of any function. -/
namespace Go.Proofs.YtjonhenllhnibaaGreatDoor

/-- The slot of a text, by how many are ahead of it. -/
def qs (n f i : Nat) : Nat := (f + i) % n
/-- How many are ahead of a slot's text. -/
def qp (n f j : Nat) : Nat := (j + n - f) % n
theorem qmod_two {a n : Nat} (h : a < 2 * n) : a % n = if a < n then a else a - n := by
  by_cases h1 : a < n
  · rw [if_pos h1, Nat.mod_eq_of_lt h1]
  · rw [if_neg h1, Nat.mod_eq_sub_mod (by omega), Nat.mod_eq_of_lt (by omega)]
theorem qs_lt {n f i : Nat} (h : 1 ≤ n) : qs n f i < n := Nat.mod_lt _ (by omega)
theorem qp_lt {n f j : Nat} (h : 1 ≤ n) : qp n f j < n := Nat.mod_lt _ (by omega)
theorem qs_is {n f i : Nat} (hf : f < n) (hi : i ≤ n) : qs n f i = if f + i < n then f + i else f + i - n := qmod_two (by omega)
theorem qp_is {n f j : Nat} (hf : f < n) (hj : j < n) : qp n f j = if j < f then j + n - f else j - f := by
  unfold qp
  rw [qmod_two (by omega)]
  split <;> split <;> omega
theorem qs_qp {n f j : Nat} (hf : f < n) (hj : j < n) : qs n f (qp n f j) = j := by
  rw [qs_is hf (Nat.le_of_lt (qp_lt (by omega))), qp_is hf hj]
  split <;> split <;> omega
theorem qp_qs {n f i : Nat} (hf : f < n) (hi : i < n) : qp n f (qs n f i) = i := by
  rw [qp_is hf (qs_lt (by omega)), qs_is hf (by omega)]
  split <;> split <;> omega
theorem qs_zero {n f : Nat} (hf : f < n) : qs n f 0 = f := Nat.mod_eq_of_lt hf
theorem qs_add {n f i j : Nat} : qs n (qs n f i) j = qs n f (i + j) := by
  unfold qs
  rw [Nat.mod_add_mod, Nat.add_assoc]
/-- .. behind some that are dropped. -/
theorem qp_drop {n f k j : Nat} (hf : f < n) (hk : k ≤ n) (hj : j < n) : qp n (qs n f k) j = if k ≤ qp n f j then qp n f j - k else qp n f j + n - k := by
  have h1 := qp_is hf hj
  have h2 := qs_is hf hk
  have h3 := qp_is (f := qs n f k) (qs_lt (by omega)) hj
  have h4 := qs_lt (n := n) (f := f) (i := k) (by omega)
  rw [h3]
  generalize qp n f j = p at h1
  generalize qs n f k = s at h2 h4
  split at h1 <;> split at h2 <;> split <;> split <;> omega

theorem qext {L M : List (List UInt8)} {n : Nat} (hl : L.length = n) (hm : M.length = n) (h : ∀ j, j < n → L.getD j [] = M.getD j []) : L = M := by
  apply List.ext_getElem
  · rw [hl, hm]
  · intro i h1 h2
    have := h i (by omega)
    simpa [List.getD, h1, h2] using this
theorem qgetD_out {L : List (List UInt8)} {i : Nat} (h : L.length ≤ i) : L.getD i [] = [] := by simp [List.getD, List.getElem?_eq_none h]
theorem qgetD_set {L : List (List UInt8)} {k j : Nat} {x : List UInt8} (hk : k < L.length) : (L.set k x).getD j [] = if j = k then x else L.getD j [] := by
  by_cases h : j = k
  · subst h; rw [if_pos rfl]; simp [List.getD, hk]
  · have : ¬ k = j := fun e => h e.symm
    rw [if_neg h]; simp [List.getD, this]
theorem qgetD_more (L : List (List UInt8)) (x : List UInt8) (j : Nat) : (L ++ [x]).getD j [] = if j < L.length then L.getD j [] else if j = L.length then x else [] := by
  by_cases h : j < L.length
  · rw [if_pos h]; simp [List.getD, List.getElem?_append_left h]
  · rw [if_neg h]
    by_cases h2 : j = L.length
    · subst h2; rw [if_pos rfl]; simp [List.getD]
    · rw [if_neg h2]; exact qgetD_out (by simp; omega)
theorem qgetD_drop (L : List (List UInt8)) (k j : Nat) : (L.drop k).getD j [] = L.getD (k + j) [] := by simp [List.getD]

/-- A ring's texts, from one on, up to ahead of another one. -/
def qat (L : List (List UInt8)) (f i : Nat) : List UInt8 := L.getD (qs L.length f i) []
def qitems (L : List (List UInt8)) (f m : Nat) : List (List UInt8) := (List.range m).map (qat L f)
theorem qitems_len (L : List (List UInt8)) (f m : Nat) : (qitems L f m).length = m := by simp [qitems]
theorem qitems_at (L : List (List UInt8)) (f m i : Nat) : (qitems L f m).getD i [] = if i < m then qat L f i else [] := by
  by_cases h : i < m
  · rw [if_pos h]; simp [qitems, List.getD, h]
  · rw [if_neg h]; exact qgetD_out (by rw [qitems_len]; omega)
theorem qitems_more (L : List (List UInt8)) (f m : Nat) : qitems L f (m + 1) = qitems L f m ++ [qat L f m] := by simp [qitems, List.range_succ]

/-- A ring of so many slots, from one on, with texts. -/
def qof (n f : Nat) (l : List (List UInt8)) : List (List UInt8) := (List.range n).map fun j => l.getD (qp n f j) []
theorem qof_len (n f : Nat) (l : List (List UInt8)) : (qof n f l).length = n := by simp [qof]
theorem qof_at (n f : Nat) (l : List (List UInt8)) {j : Nat} (h : j < n) : (qof n f l).getD j [] = l.getD (qp n f j) [] := by simp [qof, List.getD, h]

/-- A ring that may be. -/
structure QR (L : List (List UInt8)) (f m : Nat) : Prop where
  lo : 1 ≤ L.length
  hi : L.length ≤ 64
  start : f < L.length
  many : m ≤ L.length
  out : ∀ i, i < L.length → m ≤ i → qat L f i = []
theorem QR.of_ {L : List (List UInt8)} {f m : Nat} (h : QR L f m) : qof L.length f (qitems L f m) = L := by
  refine qext (qof_len _ _ _) rfl fun j hj => ?_
  rw [qof_at _ _ _ hj, qitems_at]
  have e : qat L f (qp L.length f j) = L.getD j [] := by unfold qat; rw [qs_qp h.start hj]
  by_cases hm : qp L.length f j < m
  · rw [if_pos hm, e]
  · rw [if_neg hm, ← e, h.out _ (qp_lt h.lo) (by omega)]
/-- What is made of texts may be, and has them. -/
theorem qof_right {n f : Nat} {l : List (List UInt8)} (h1 : 1 ≤ n) (h2 : n ≤ 64) (hf : f < n) (hl : l.length ≤ n) : QR (qof n f l) f l.length := by
  refine ⟨by rw [qof_len]; exact h1, by rw [qof_len]; exact h2, by rw [qof_len]; exact hf, by rw [qof_len]; exact hl, fun i hi hm => ?_⟩
  rw [qof_len] at hi
  unfold qat
  rw [qof_len, qof_at _ _ _ (qs_lt h1), qp_qs hf hi]
  exact qgetD_out hm
theorem qof_items {n f : Nat} {l : List (List UInt8)} (h1 : 1 ≤ n) (hf : f < n) (hl : l.length ≤ n) : qitems (qof n f l) f l.length = l := by
  refine qext (qitems_len _ _ _) rfl fun i hi => ?_
  rw [qitems_at, if_pos hi]
  unfold qat
  rw [qof_len, qof_at _ _ _ (qs_lt h1), qp_qs hf (by omega)]

/-- One text more. -/
def qpush (L : List (List UInt8)) (f m : Nat) (s : List UInt8) : List (List UInt8) := L.set (qs L.length f m) s
theorem qpush_len (L : List (List UInt8)) (f m : Nat) (s : List UInt8) : (qpush L f m s).length = L.length := List.length_set ..
theorem QR.push_of {L : List (List UInt8)} {f m : Nat} (h : QR L f m) (hm : m < L.length) (s : List UInt8) : qof L.length f (qitems L f m ++ [s]) = qpush L f m s := by
  refine qext (qof_len _ _ _) (qpush_len _ _ _ _) fun j hj => ?_
  rw [qof_at _ _ _ hj, qgetD_more, qitems_len]
  unfold qpush
  rw [qgetD_set (qs_lt h.lo)]
  have e : qat L f (qp L.length f j) = L.getD j [] := by unfold qat; rw [qs_qp h.start hj]
  by_cases h1 : qp L.length f j < m
  · have : ¬ j = qs L.length f m := by rintro rfl; rw [qp_qs h.start hm] at h1; omega
    rw [if_pos h1, if_neg this, qitems_at, if_pos h1, e]
  · rw [if_neg h1]
    by_cases h2 : qp L.length f j = m
    · have : j = qs L.length f m := by rw [← h2, qs_qp h.start hj]
      rw [if_pos h2, if_pos this]
    · have : ¬ j = qs L.length f m := by rintro rfl; rw [qp_qs h.start hm] at h2; omega
      rw [if_neg h2, if_neg this, ← e, h.out _ (qp_lt h.lo) (by omega)]
theorem QR.push {L : List (List UInt8)} {f m : Nat} (h : QR L f m) (hm : m < L.length) (s : List UInt8) : QR (qpush L f m s) f (m + 1) ∧ qitems (qpush L f m s) f (m + 1) = qitems L f m ++ [s] := by
  have hl : (qitems L f m ++ [s]).length = m + 1 := by rw [List.length_append, qitems_len]; rfl
  have h1 := qof_right (l := qitems L f m ++ [s]) h.lo h.hi h.start (by omega)
  have h2 := qof_items (l := qitems L f m ++ [s]) h.lo h.start (by omega)
  rw [h.push_of hm, hl] at h1 h2
  exact ⟨h1, h2⟩

/-- Some fewer. -/
def qdrop (L : List (List UInt8)) (f k : Nat) : List (List UInt8) := (List.range L.length).map fun j => if qp L.length f j < k then [] else L.getD j []
theorem qdrop_len (L : List (List UInt8)) (f k : Nat) : (qdrop L f k).length = L.length := by simp [qdrop]
theorem qdrop_at (L : List (List UInt8)) (f k : Nat) {j : Nat} (h : j < L.length) : (qdrop L f k).getD j [] = if qp L.length f j < k then [] else L.getD j [] := by simp [qdrop, List.getD, h]
theorem qdrop_zero (L : List (List UInt8)) (f : Nat) : qdrop L f 0 = L := qext (qdrop_len _ _ _) rfl fun j hj => by rw [qdrop_at _ _ _ hj, if_neg (by omega)]
theorem qdrop_more {L : List (List UInt8)} {f k : Nat} (hf : f < L.length) (hk : k < L.length) : (qdrop L f k).set (qs L.length f k) [] = qdrop L f (k + 1) := by
  refine qext (by rw [List.length_set, qdrop_len]) (qdrop_len _ _ _) fun j hj => ?_
  rw [qgetD_set (by rw [qdrop_len]; exact qs_lt (by omega)), qdrop_at _ _ _ hj, qdrop_at _ _ _ hj]
  by_cases h1 : j = qs L.length f k
  · have : qp L.length f j = k := by rw [h1, qp_qs hf hk]
    rw [if_pos h1, if_pos (by omega)]
  · have : ¬ qp L.length f j = k := fun e => h1 (by rw [← e, qs_qp hf hj])
    rw [if_neg h1]
    by_cases h2 : qp L.length f j < k
    · rw [if_pos h2, if_pos (by omega)]
    · rw [if_neg h2, if_neg (by omega)]
theorem QR.drop_of {L : List (List UInt8)} {f m k : Nat} (h : QR L f m) (hk : k ≤ m) : qof L.length (qs L.length f k) ((qitems L f m).drop k) = qdrop L f k := by
  have hm := h.many
  refine qext (qof_len _ _ _) (qdrop_len _ _ _) fun j hj => ?_
  rw [qof_at _ _ _ hj, qdrop_at _ _ _ hj, qgetD_drop, qp_drop h.start (by omega) hj, qitems_at]
  have e : qat L f (qp L.length f j) = L.getD j [] := by unfold qat; rw [qs_qp h.start hj]
  have hl := qp_lt (n := L.length) (f := f) (j := j) h.lo
  by_cases h1 : qp L.length f j < k
  · rw [if_pos h1, if_neg (by omega : ¬ k ≤ qp L.length f j), if_neg (by omega)]
  · rw [if_neg h1, if_pos (by omega : k ≤ qp L.length f j), show k + (qp L.length f j - k) = qp L.length f j by omega]
    by_cases h2 : qp L.length f j < m
    · rw [if_pos h2, e]
    · rw [if_neg h2, ← e, h.out _ hl (by omega)]
theorem QR.drop {L : List (List UInt8)} {f m k : Nat} (h : QR L f m) (hk : k ≤ m) : QR (qdrop L f k) (qs L.length f k) (m - k) ∧ qitems (qdrop L f k) (qs L.length f k) (m - k) = (qitems L f m).drop k := by
  have hm := h.many
  have hl : ((qitems L f m).drop k).length = m - k := by rw [List.length_drop, qitems_len]
  have h1 := qof_right (l := (qitems L f m).drop k) h.lo h.hi (qs_lt (n := L.length) (f := f) (i := k) h.lo) (by omega)
  have h2 := qof_items (l := (qitems L f m).drop k) h.lo (qs_lt (n := L.length) (f := f) (i := k) h.lo) (by omega)
  rw [h.drop_of hk, hl] at h1 h2
  exact ⟨h1, h2⟩
/-- .. and then others: as many at once. -/
theorem QR.drop_two {L : List (List UInt8)} {f m k j : Nat} (h : QR L f m) (hk : k + j ≤ m) : qdrop (qdrop L f k) (qs L.length f k) j = qdrop L f (k + j) := by
  obtain ⟨h1, h2⟩ := h.drop (k := k) (by omega)
  have h3 := h1.drop_of (k := j) (by omega)
  rw [h2, List.drop_drop, qdrop_len, qs_add, h.drop_of hk] at h3
  exact h3.symm

/-- Whether a ring may be. -/
def qright (L : List (List UInt8)) (f m : Int) : Bool :=
  decide ((1 ≤ L.length ∧ L.length ≤ 64) ∧ (0 ≤ f ∧ f < (L.length : Int)) ∧ (0 ≤ m ∧ m ≤ (L.length : Int)) ∧ ∀ i, i < L.length → m.toNat ≤ i → qat L f.toNat i = [])
theorem qright_iff {L : List (List UInt8)} {f m : Int} : qright L f m = true ↔ ∃ a b : Nat, f = (a : Int) ∧ m = (b : Int) ∧ QR L a b := by
  unfold qright
  rw [decide_eq_true_iff]
  constructor
  · rintro ⟨⟨h1, h2⟩, ⟨h3, h4⟩, ⟨h5, h6⟩, h7⟩
    exact ⟨f.toNat, m.toNat, by omega, by omega, h1, h2, by omega, by omega, h7⟩
  · rintro ⟨a, b, rfl, rfl, h⟩
    have h3 := h.start
    have h4 := h.many
    refine ⟨⟨h.lo, h.hi⟩, ⟨by omega, by omega⟩, ⟨by omega, by omega⟩, fun i hi hm => ?_⟩
    rw [Int.toNat_natCast] at hm ⊢
    exact h.out i hi hm
theorem qright_mk {L : List (List UInt8)} {f m : Nat} (h : QR L f m) : qright L (f : Int) (m : Int) = true := qright_iff.2 ⟨f, m, rfl, rfl, h⟩
/-- .. told slot by slot. -/
theorem QR.slot {L : List (List UInt8)} {f m : Nat} (h1 : 1 ≤ L.length) (hf : f < L.length) : (∀ i, i < L.length → m ≤ i → qat L f i = []) ↔ ∀ j, j < L.length → L.getD j [] = [] ∨ qp L.length f j < m := by
  constructor
  · intro h j hj
    by_cases hm : qp L.length f j < m
    · exact .inr hm
    · left
      have := h _ (qp_lt h1) (by omega : m ≤ qp L.length f j)
      unfold qat at this
      rwa [qs_qp hf hj] at this
  · intro h i hi hm
    unfold qat
    rcases h (qs L.length f i) (qs_lt h1) with e | e
    · exact e
    · rw [qp_qs hf hi] at e; omega
/-- Whether two are the same. -/
def qsame (L : List (List UInt8)) (f m : Int) (K : List (List UInt8)) (g k : Int) : Bool := (decide (f = g) && decide (m = k)) && decide (L = K)
theorem qsame_refl (L : List (List UInt8)) (f m : Int) : qsame L f m L f m = true := by simp [qsame]
/-- A new one. -/
theorem qnew_right {n : Nat} (h1 : 1 ≤ n) (h2 : n ≤ 64) : QR (List.replicate n []) 0 0 := by
  refine ⟨by simpa using h1, by simpa using h2, by simp; omega, by simp, fun i _ _ => ?_⟩
  unfold qat
  simp [List.getD, List.getElem?_replicate]
  split <;> rfl
end Go.Proofs.YtjonhenllhnibaaGreatDoor
/- A ring's value, and a row of texts that the call made, as it stands in its block; what is handed back. Nothing of any function. -/
namespace Go.Proofs.YtjonhenllhnibaaGreatDoor
open Go.RowKit

/-- A ring's value, and a ring's cells. -/
abbrev qv (A : Option Addr) (n c : Nat) (f m : Int) : Value := .agg #[.slice A n c, .int .i64 f, .int .i64 m]
abbrev qcs (A : Option Addr) (n c : Nat) (f m : Int) : Array Value := #[.slice A n c, .int .i64 f, .int .i64 m]

/-- Slots that can be read. -/
structure QM (w : World) (A : Option Addr) (n c : Nat) (L : List (List UInt8)) : Prop where
  row : SR w A L
  len : L.length = n
  nil : A = none → c = 0
  few : n ≤ 70
  cap : n ≤ c
theorem QM.later {w w' : World} {A : Option Addr} {n c : Nat} {L : List (List UInt8)} (h : QM w A n c L) (hb : Below w.heap.size w w') : QM w' A n c L :=
  ⟨h.row.later hb, h.len, h.nil, h.few, h.cap⟩
theorem QM.none (w : World) : QM w none 0 0 [] := ⟨SR.nil _ _, rfl, fun _ => rfl, by omega, by omega⟩
theorem qdrew {B : Nat} {w w1 : World} (h : Below B w w1) (n : Nat) : Below B w (w1.drewN n) := ⟨h.os, h.tape, h.output, h.size, h.block⟩
theorem qkeeps {W W' : World} (h : Below W.heap.size W W') : KeepsOthers W W' := ⟨h.size, fun k _ hk _ => (h.block k (Array.getElem?_eq_some_iff.1 hk).1).trans hk⟩
theorem svs_one' (L : List (List UInt8)) : ∀ u ∈ L.map sv, u.oneCell' = true := by
  intro u hu
  obtain ⟨x, _, rfl⟩ := List.mem_map.1 hu
  rfl
theorem SR.cells' {w : World} {a : Addr} {L : List (List UInt8)} (h : SR w (some a) L) : ∀ j u, (L.map sv)[j]? = some u → w.cell? (a.add j) = some u := by
  intro j u hu
  have hj : j < L.length := by simpa using (List.getElem?_eq_some_iff.1 hu).1
  obtain ⟨g, off, e, h0⟩ := h j hj
  obtain rfl : a = ⟨g, off, Option.none⟩ := Option.some.inj e
  rw [Go.WideShapes.add_plain, h0, ← svs_at L j hj, hu]
theorem blk_SR {W : World} {g : Nat} {t : TypeId} {L : List (List UInt8)} (h : Blk W g t (L.map sv).toArray) : SR W (some ⟨g, 0, Option.none⟩) L := fun j hj =>
  ⟨g, 0, rfl, by rw [Nat.zero_add, h.cell j, List.getElem?_toArray, svs_at L j hj]⟩

/-- A row of texts that the call made, as it stands in its block. -/
def QS (W : World) (g n c : Nat) (T : List (List UInt8)) : Prop := ∃ cur : Array Value, Blk W g 9 cur ∧ cur.size = c * 1 ∧ n ≤ c ∧ c ≤ maxLen ∧ cur.toList.take (n * 1) = T.map sv ∧ T.length = n
theorem QS.of_own {W : World} {base n c : Nat} {A : Option Addr} {T : List (List UInt8)} (h : W.ownsRow base 9 1 (.slice A n c) n (T.map sv)) (hn : 1 ≤ n) (ht : T.length = n) : ∃ g, A = some ⟨g, 0, none⟩ ∧ base ≤ g ∧ QS W g n c T := by
  rcases h.2 with ⟨_, h2⟩ | ⟨g, cap, cur, hv, hg, hh, h3, h4, h5, h6⟩
  · omega
  · injection hv with e1 e2 e3
    subst e1 e3
    exact ⟨g, rfl, hg, cur, hh, h5, h3, h4, h6, ht⟩
theorem QS.own {W : World} {base g n c : Nat} {T : List (List UInt8)} (h : QS W g n c T) (hg : base ≤ g) : W.ownsRow base 9 1 (.slice (some ⟨g, 0, none⟩) n c) n (T.map sv) := by
  obtain ⟨cur, h1, h2, h3, h4, h5, h6⟩ := h
  exact ⟨by simp [h6], .inr ⟨g, c, cur, rfl, hg, h1, h3, h4, h2, h5⟩⟩
theorem QS.below {W W' : World} {g n c : Nat} {T : List (List UInt8)} (h : QS W g n c T) (hb : Below W.heap.size W W') : QS W' g n c T := by
  obtain ⟨cur, h1, h2⟩ := h
  exact ⟨cur, h1.below hb, h2⟩
theorem QS.lt {W : World} {g n c : Nat} {T : List (List UInt8)} (h : QS W g n c T) : g < W.heap.size := by
  obtain ⟨cur, h1, _⟩ := h
  exact h1.lt
theorem QS.cell {W : World} {g n c : Nat} {T : List (List UInt8)} (h : QS W g n c T) (k : Nat) (hk : k < n) : W.cell? ⟨g, k, none⟩ = some (sv (T.getD k [])) ∧ W.frozen? ⟨g, k, none⟩ = false := by
  obtain ⟨cur, h1, h2, h3, h4, h5, h6⟩ := h
  refine ⟨?_, h1.frozen k⟩
  rw [h1.cell k, ← svs_at T k (by omega), ← h5, List.getElem?_take, if_pos (by omega)]
  simp
theorem QS.set_ {W : World} {g n c : Nat} {T : List (List UInt8)} (h : QS W g n c T) (k : Nat) (x : List UInt8) : QS (W.setCell ⟨g, k, none⟩ (sv x)) g n c (T.set k x) := by
  obtain ⟨cur, h1, h2, h3, h4, h5, h6⟩ := h
  refine ⟨cur.setIfInBounds k (sv x), h1.set_ k _, by simpa using h2, h3, h4, ?_, by simpa using h6⟩
  rw [Array.toList_setIfInBounds, List.take_set, h5, List.map_set]
theorem QS.far {W : World} {g n c : Nat} {T : List (List UInt8)} (h : QS W g n c T) {p : Addr} (hp : g ≠ p.block) (u : Value) : QS (W.setCell p u) g n c T := by
  obtain ⟨cur, h1, h2⟩ := h
  exact ⟨cur, h1.far hp u, h2⟩
theorem QS.row {W : World} {g n c : Nat} {T : List (List UInt8)} (h : QS W g n c T) : SR W (some ⟨g, 0, none⟩) T := fun j hj => by
  obtain ⟨cur, h1, h2, h3, h4, h5, h6⟩ := h
  have := (QS.cell ⟨cur, h1, h2, h3, h4, h5, h6⟩ j (by omega)).1
  exact ⟨g, 0, rfl, by rw [Nat.zero_add]; exact this⟩
theorem QS.qm {W : World} {g n c : Nat} {T : List (List UInt8)} (h : QS W g n c T) (hn : n ≤ 70) : QM W (some ⟨g, 0, none⟩) n c T := by
  obtain ⟨cur, h1, h2, h3, h4, h5, h6⟩ := h
  exact ⟨QS.row ⟨cur, h1, h2, h3, h4, h5, h6⟩, h6, (fun e => by cases e), hn, h3⟩
theorem QS.putObj {W : World} {g n c D : Nat} {T : List (List UInt8)} {o o' : Obj} (h : QS W g n c T) (hD : W.heap[D]? = some o) (ho : o.isCells = false) : QS (W.putObj D o') g n c T := by
  obtain ⟨cur, h1, h2⟩ := h
  refine ⟨cur, (World.putObj_heap_other (fun e => ?_)).trans h1, h2⟩
  subst e
  rw [show W.heap[g]? = _ from h1] at hD
  cases hD; cases ho
theorem own_QM {W : World} {base : Nat} {A : Option Addr} {n c : Nat} {L : List (List UInt8)} (h : W.ownsRow base 9 1 (.slice A n c) n (L.map sv)) (hl : L.length = n) (hn : n ≤ 70) : QM W A n c L := by
  have h1 := own_SR' h hl
  obtain ⟨A', c', e, hh⟩ := own_form h
  injection e with e1 e2 e3
  subst e1
  subst e3
  rcases hh with ⟨rfl, rfl, rfl⟩ | ⟨g, rfl, h3, _⟩
  · exact ⟨h1, hl, fun _ => rfl, hn, Nat.le_refl _⟩
  · exact ⟨h1, hl, (fun e => by cases e), hn, h3⟩
theorem own_base' {W : World} {base base' : Nat} {e : TypeId} {size : Nat} {v : Value} {n : Nat} {xs : List Value} (h : W.ownsRow base e size v n xs) (hb : base' ≤ base) : W.ownsRow base' e size v n xs := by
  obtain ⟨h1, h2⟩ := h
  refine ⟨h1, ?_⟩
  rcases h2 with h2 | ⟨g, cap, cur, hv, hg, r⟩
  · exact Or.inl h2
  · exact Or.inr ⟨g, cap, cur, hv, Nat.le_trans hb hg, r⟩

theorem qcells {W : World} {g : Nat} {t : TypeId} {x y z : Value} (h : Blk W g t #[x, y, z]) :
    (W.cell? ⟨g, 0, none⟩ = some x ∧ W.cell? ⟨g, 1, none⟩ = some y ∧ W.cell? ⟨g, 2, none⟩ = some z) ∧ W.frozen? ⟨g, 0, none⟩ = false ∧ W.frozen? ⟨g, 1, none⟩ = false ∧ W.frozen? ⟨g, 2, none⟩ = false :=
  ⟨⟨h.cell 0, h.cell 1, h.cell 2⟩, h.frozen 0, h.frozen 1, h.frozen 2⟩
theorem qcell {W : World} {g : Nat} {t : TypeId} {x : Value} (h : Blk W g t #[x]) : W.cell? ⟨g, 0, none⟩ = some x ∧ W.frozen? ⟨g, 0, none⟩ = false := ⟨h.cell 0, h.frozen 0⟩
/-- .. and a bool. -/
theorem bool1_result {fn : Func} {p : Tmp} {tmps : Array Value} {W : World} {g : Nat} {b : Bool} (h : fn.results = #[.cell p 4]) (hb : Blk W g 4 #[.bool b]) (hp : tmps.getD p undef = .pointer (some ⟨g, 0, none⟩) := by rfl) :
    (results fn tmps).run Tryz.prog W = .ok (.bool b) W := by
  obtain ⟨q0, _⟩ := qcell hb
  simp only [Array.getD_eq_getD_getElem?] at hp
  simp [results, h, go_sem, hp, q0]

end Go.Proofs.YtjonhenllhnibaaGreatDoor
/- A row appended to one that the call made; a row's beginning. Nothing of any function. -/
namespace Go.Proofs.YtjonhenllhnibaaGreatDoor
open Go.RowKit

/-- Nothing is appended. -/
theorem qappend_none (W : World) (ty : TypeId) (A B : Option Addr) (n c d : Nat) (h : n ≤ c) :
    (Builtin.append_ #[43, 43] ty #[.slice A n c, .slice B 0 d]).run Tryz.prog W = .ok (.slice A n c) W := by
  obtain ⟨ti, hi0, hz0, hz1, hz2⟩ := info_parts infoS
  cases A <;> cases B <;> simp [Builtin.append_, run_underlying Tryz.underlying43, sizeOf, typeInfo, hi0, h, Builtin.lenOf, Builtin.firstCells, loadCells, loadCellsFrom, storeCells]
/-- A row that can be read, appended to one that the call made. -/
theorem qappend_row {W : World} {base n c d m : Nat} {A B : Option Addr} {xs : List Value} {X : List (List UInt8)} (ho : W.ownsRow base 9 1 (.slice A n c) n xs) (hs : SR W B X) (hm : X.length = m) (hn : n + m ≤ 65536) (hb : base ≤ W.heap.size) :
    ∃ A' c' W', (Builtin.append_ #[43, 43] 43 #[.slice A n c, .slice B m d]).run Tryz.prog W = .ok (.slice A' (n + m) c') W' ∧ W'.ownsRow base 9 1 (.slice A' (n + m) c') (n + m) (xs ++ X.map sv) ∧ W.grownBy W' (Value.slice A n c).ownBlock := by
  obtain ⟨ti, hi0, hz0, hz1, hz2⟩ := info_parts infoS
  by_cases h0 : X = []
  · subst h0
    obtain rfl : m = 0 := by rw [← hm]; rfl
    have hnc : n ≤ c := by
      obtain ⟨A', c', e, hh⟩ := own_form ho
      injection e with _ _ e3
      subst e3
      rcases hh with ⟨_, h1, h2⟩ | ⟨_, _, h1, _⟩ <;> omega
    exact ⟨A, c, W, qappend_none W _ A B n c d hnc, by simpa using ho, ⟨rfl, rfl, rfl, Nat.le_refl _, fun _ _ _ => rfl⟩⟩
  · have hpos : 0 < X.length := List.length_pos_iff.2 h0
    obtain ⟨g, off, rfl, _⟩ := hs 0 hpos
    have hnews : ∀ (i : Nat) (u : Value), (X.map sv)[i]? = some u → W.cell? ((⟨g, off, none⟩ : Addr).add i) = some u := fun i u hu => by
      have hi : i < X.length := by
        have := (List.getElem?_eq_some_iff.1 hu).1
        simpa using this
      obtain ⟨g', off', e, hc⟩ := hs i hi
      obtain ⟨rfl, rfl⟩ : g = g' ∧ off = off' := by injection e with e; injection e with e1 e2; exact ⟨e1, e2⟩
      rw [svs_at X i hi] at hu
      cases hu
      have e9 : (⟨g, off, none⟩ : Addr).add i = ⟨g, off + i, none⟩ := by cases i <;> simp [Addr.add]
      rw [e9]
      exact hc
    obtain ⟨v', w', hr, h2, h3, h4⟩ := run_append_own (P := Tryz.prog) W base 43 43 9 ti (.string ⟨#[]⟩) 1 16 Tryz.underlying43 hi0 hz0 hz1 hz2 rfl (by decide) (.slice A n c) n xs ho ⟨g, off, none⟩ m d (X.map sv) (by simp [hm]) hnews (by simp [Value.oneCell']) (by unfold maxLen; omega) (by omega) hb
    obtain ⟨A', c', rfl, _⟩ := own_form h2
    exact ⟨A', c', w', hr, h2, h3⟩
/-- An append whose run is known, behind a guard that says yes. -/
theorem qlist_append_run {P : Program} (w : World) {ops : Array Oper} {rest : List Oper} {o : Oper} {a : Act} {Q : Exit → Act → World → Prop} (hw : Region.wanted o (yielded ops a.tmps) = true) (s x : Operand) (t tn : TypeId)
    (ho : o.op = .call { callee := .builtin .append, args := #[s, x], argTypes := #[t, tn] }) (vs vx : Value) (hs : a.eval s = vs) (hx : a.eval x = vx)
    (v' : Value) (w' : World) (hr : (Builtin.append_ #[t, tn] o.type #[vs, vx]).run P w = .ok v' w') (h : wpList P ops Q rest (a.put o.dst v') w') : wpList P ops Q (o :: rest) a w :=
  BigFrame.wpList_want hw fun _ hK => Lib.wp_append_run w s x t tn ho vs vx hs hx v' w' hr (hK _ _ h)
theorem qcut_run (A : Option Addr) (len cap m : Nat) (hm : m ≤ cap) (W : World) : (Instr.slice 43 (.slice A len cap) none (some (.int .i64 (m : Int))) none).run Tryz.prog W = .ok (.slice A m cap) W := by
  obtain ⟨i, hi⟩ : ∃ i, Tryz.prog.info? 9 = some i := Option.isSome_iff_exists.1 (by kernel_rfl)
  have hb : (Instr.sliceBounds true len cap none (some (.int .i64 (m : Int))) none).run Tryz.prog W = .ok (0, m, cap) W := by
    have h1 : (0 : Int) ≤ (m : Int) ∧ (m : Int) ≤ (cap : Int) := by omega
    simp [Instr.sliceBounds, Instr.sliceBound, asIntOf, h1]
    omega
  have hA : (if cap = 0 then A else A.map fun x => x.add (0 * i.size)) = A := by
    split
    · rfl
    · cases A <;> simp [Addr.add]
  simp [Instr.slice, run_underlying (P := Tryz.prog) (w := W) Tryz.underlying43, hb, sizeOf, typeInfo, hi]
  simpa using hA
end Go.Proofs.YtjonhenllhnibaaGreatDoor
/- The contract of slices.Clone of a row of texts. -/
namespace Go.Proofs.YtjonhenllhnibaaGreatDoor
open Go.RowKit

theorem qown_nil {W : World} {t : TypeId} {g base size : Nat} (h : Blk W g t #[]) (hb : base ≤ g) : W.ownsRow base t size (.slice (some ⟨g, 0, none⟩) 0 0) 0 [] :=
  ⟨by simp, .inr ⟨g, 0, #[], rfl, hb, h, Nat.le_refl _, Nat.zero_le _, by simp, by simp⟩⟩

set_option maxRecDepth 100000 in
set_option maxHeartbeats 1000000 in
theorem qclone_any (A : Option Addr) (c n : Nat) (L : List (List UInt8)) (w : World) (hA : SR w A L) (hl : L.length = n) (h0 : A = none → c = 0) (hn : n ≤ 65536) :
    Calls Tryz.prog 31 #[.slice A n c] w fun e w' => ∃ A' c', e = .returned (.slice A' n c') ∧ w'.ownsRow w.heap.size 9 1 (.slice A' n c') n (L.map sv) ∧ Below w.heap.size w w' := by
  cases A with
  | none =>
    have hL : L = [] := by
      cases L with
      | nil => rfl
      | cons x r => obtain ⟨g, off, e, _⟩ := hA 0 (by simp); cases e
    subst hL
    subst hl
    rw [h0 rfl]
    clear h0 hA
    go_enter Tryz.func31, Tryz.ntmps31
    have hq := fun (w : World) => Lib.run_eql_slice_nil (P := Tryz.prog) w 43 9 none 0 0 0 0 Tryz.underlying43
    go_wp2
    go_ret
    exact ⟨none, 0, rfl, World.ownsRow_nil _ _ _ _, Below.refl _ _⟩
  | some a =>
    clear h0
    obtain ⟨ti, hi, hz0, hz1, hz2⟩ := info_parts infoS
    have HC := Lib.hid ((hA.later (ba (Below.refl w.heap.size w) (.cells #[] 9))).cells')
    have HO : Hid ((w.alloc (.cells #[] 9)).ownsRow w.heap.size 9 1 (.slice (some ⟨w.heap.size, 0, none⟩) 0 0) 0 []) := Lib.hid (qown_nil (Blk.new w _ _) (Nat.le_refl _))
    have HL : Hid ((L.map sv).length = n * 1) := Lib.hid (by simp [hl])
    have H1 := Lib.hid (svs_one' L)
    clear hA hl
    go_enter Tryz.func31, Tryz.ntmps31
    have hq := fun (w : World) => Lib.run_eql_slice_nil (P := Tryz.prog) w 43 9 (some a) n c 0 0 Tryz.underlying43
    go_wp2_with (at_builtin; refine wpList_append_own _ rfl _ _ 43 rfl w.heap.size 9 ti _ 1 16 Tryz.underlying43 hi hz0 hz1 hz2 rfl (by decide) _ _ _ rfl HO.out a n c (L.map sv) rfl HL.out HC.out H1.out (by unfold maxLen; omega) (by omega) (by simp) ?_; intro v3 w3 hown3 hgrow3 _)
    rw [Nat.zero_add] at hown3
    obtain ⟨va, vc, rfl, _⟩ := own_form hown3
    go_ret
    refine ⟨va, vc, rfl, ?_, (ba (Below.refl _ _) _).grown hgrow3 (by simp) (fun k e => (HO.out.lt k e).1)⟩
    simpa using hown3
end Go.Proofs.YtjonhenllhnibaaGreatDoor
