/- Rings in plain lists: the slot of a text, the texts of a ring, one text more, some fewer. Nothing of any function. -/
import Derived.Test.YtnehodipblabbaaMem
namespace Go.Proofs.Ytnehodipblabbaa

/-- The slot of a text, by how many are ahead of it. -/
def qs (n f i : Nat) : Nat := (f + i) % n
/-- How many are ahead of a slot's text. -/
def qp (n f j : Nat) : Nat := (j + n - f) % n
theorem qmod_two {a n : Nat} (h : a < 2 * n) : a % n = if a < n then a else a - n := by
  by_cases h1 : a < n
  · rw [if_pos h1, Nat.mod_eq_of_lt h1]
  · rw [if_neg h1, Nat.mod_eq_sub_mod (by omega), Nat.mod_eq_of_lt (by omega)]
theorem qs_lt {n f i : Nat} (h : 1 ≤ n) : qs n f i < n := Nat.mod_lt _ (by omega)
theorem qp_lt {n f j : Nat} (h : 1 ≤ n) : qp n f j < n := Nat.mod_lt _ (by omega)
theorem qs_is {n f i : Nat} (hf : f < n) (hi : i ≤ n) : qs n f i = if f + i < n then f + i else f + i - n := qmod_two (by omega)
theorem qp_is {n f j : Nat} (hf : f < n) (hj : j < n) : qp n f j = if j < f then j + n - f else j - f := by
  unfold qp
  rw [qmod_two (by omega)]
  split <;> split <;> omega
theorem qs_qp {n f j : Nat} (hf : f < n) (hj : j < n) : qs n f (qp n f j) = j := by
  rw [qs_is hf (Nat.le_of_lt (qp_lt (by omega))), qp_is hf hj]
  split <;> split <;> omega
theorem qp_qs {n f i : Nat} (hf : f < n) (hi : i < n) : qp n f (qs n f i) = i := by
  rw [qp_is hf (qs_lt (by omega)), qs_is hf (by omega)]
  split <;> split <;> omega
theorem qs_zero {n f : Nat} (hf : f < n) : qs n f 0 = f := Nat.mod_eq_of_lt hf
theorem qs_add {n f i j : Nat} : qs n (qs n f i) j = qs n f (i + j) := by
  unfold qs
  rw [Nat.mod_add_mod, Nat.add_assoc]
/-- .. behind some that are dropped. -/
theorem qp_drop {n f k j : Nat} (hf : f < n) (hk : k ≤ n) (hj : j < n) : qp n (qs n f k) j = if k ≤ qp n f j then qp n f j - k else qp n f j + n - k := by
  have h1 := qp_is hf hj
  have h2 := qs_is hf hk
  have h3 := qp_is (f := qs n f k) (qs_lt (by omega)) hj
  have h4 := qs_lt (n := n) (f := f) (i := k) (by omega)
  rw [h3]
  generalize qp n f j = p at h1
  generalize qs n f k = s at h2 h4
  split at h1 <;> split at h2 <;> split <;> split <;> omega

theorem qext {L M : List (List UInt8)} {n : Nat} (hl : L.length = n) (hm : M.length = n) (h : ∀ j, j < n → L.getD j [] = M.getD j []) : L = M := by
  apply List.ext_getElem
  · rw [hl, hm]
  · intro i h1 h2
    have := h i (by omega)
    simpa [List.getD, h1, h2] using this
theorem qgetD_out {L : List (List UInt8)} {i : Nat} (h : L.length ≤ i) : L.getD i [] = [] := by simp [List.getD, List.getElem?_eq_none h]
theorem qgetD_set {L : List (List UInt8)} {k j : Nat} {x : List UInt8} (hk : k < L.length) : (L.set k x).getD j [] = if j = k then x else L.getD j [] := by
  by_cases h : j = k
  · subst h; rw [if_pos rfl]; simp [List.getD, hk]
  · have : ¬ k = j := fun e => h e.symm
    rw [if_neg h]; simp [List.getD, this]
theorem qgetD_more (L : List (List UInt8)) (x : List UInt8) (j : Nat) : (L ++ [x]).getD j [] = if j < L.length then L.getD j [] else if j = L.length then x else [] := by
  by_cases h : j < L.length
  · rw [if_pos h]; simp [List.getD, List.getElem?_append_left h]
  · rw [if_neg h]
    by_cases h2 : j = L.length
    · subst h2; rw [if_pos rfl]; simp [List.getD]
    · rw [if_neg h2]; exact qgetD_out (by simp; omega)
theorem qgetD_drop (L : List (List UInt8)) (k j : Nat) : (L.drop k).getD j [] = L.getD (k + j) [] := by simp [List.getD]

/-- A ring's texts, from one on, up to ahead of another one. -/
def qat (L : List (List UInt8)) (f i : Nat) : List UInt8 := L.getD (qs L.length f i) []
def qitems (L : List (List UInt8)) (f m : Nat) : List (List UInt8) := (List.range m).map (qat L f)
theorem qitems_len (L : List (List UInt8)) (f m : Nat) : (qitems L f m).length = m := by simp [qitems]
theorem qitems_at (L : List (List UInt8)) (f m i : Nat) : (qitems L f m).getD i [] = if i < m then qat L f i else [] := by
  by_cases h : i < m
  · rw [if_pos h]; simp [qitems, List.getD, h]
  · rw [if_neg h]; exact qgetD_out (by rw [qitems_len]; omega)
theorem qitems_more (L : List (List UInt8)) (f m : Nat) : qitems L f (m + 1) = qitems L f m ++ [qat L f m] := by simp [qitems, List.range_succ]

/-- A ring of so many slots, from one on, with texts. -/
def qof (n f : Nat) (l : List (List UInt8)) : List (List UInt8) := (List.range n).map fun j => l.getD (qp n f j) []
theorem qof_len (n f : Nat) (l : List (List UInt8)) : (qof n f l).length = n := by simp [qof]
theorem qof_at (n f : Nat) (l : List (List UInt8)) {j : Nat} (h : j < n) : (qof n f l).getD j [] = l.getD (qp n f j) [] := by simp [qof, List.getD, h]

/-- A ring that may be. -/
structure QR (L : List (List UInt8)) (f m : Nat) : Prop where
  lo : 1 ≤ L.length
  hi : L.length ≤ 64
  start : f < L.length
  many : m ≤ L.length
  out : ∀ i, i < L.length → m ≤ i → qat L f i = []
theorem QR.of_ {L : List (List UInt8)} {f m : Nat} (h : QR L f m) : qof L.length f (qitems L f m) = L := by
  refine qext (qof_len _ _ _) rfl fun j hj => ?_
  rw [qof_at _ _ _ hj, qitems_at]
  have e : qat L f (qp L.length f j) = L.getD j [] := by unfold qat; rw [qs_qp h.start hj]
  by_cases hm : qp L.length f j < m
  · rw [if_pos hm, e]
  · rw [if_neg hm, ← e, h.out _ (qp_lt h.lo) (by omega)]
/-- What is made of texts may be, and has them. -/
theorem qof_right {n f : Nat} {l : List (List UInt8)} (h1 : 1 ≤ n) (h2 : n ≤ 64) (hf : f < n) (hl : l.length ≤ n) : QR (qof n f l) f l.length := by
  refine ⟨by rw [qof_len]; exact h1, by rw [qof_len]; exact h2, by rw [qof_len]; exact hf, by rw [qof_len]; exact hl, fun i hi hm => ?_⟩
  rw [qof_len] at hi
  unfold qat
  rw [qof_len, qof_at _ _ _ (qs_lt h1), qp_qs hf hi]
  exact qgetD_out hm
theorem qof_items {n f : Nat} {l : List (List UInt8)} (h1 : 1 ≤ n) (hf : f < n) (hl : l.length ≤ n) : qitems (qof n f l) f l.length = l := by
  refine qext (qitems_len _ _ _) rfl fun i hi => ?_
  rw [qitems_at, if_pos hi]
  unfold qat
  rw [qof_len, qof_at _ _ _ (qs_lt h1), qp_qs hf (by omega)]

/-- One text more. -/
def qpush (L : List (List UInt8)) (f m : Nat) (s : List UInt8) : List (List UInt8) := L.set (qs L.length f m) s
theorem qpush_len (L : List (List UInt8)) (f m : Nat) (s : List UInt8) : (qpush L f m s).length = L.length := List.length_set ..
theorem QR.push_of {L : List (List UInt8)} {f m : Nat} (h : QR L f m) (hm : m < L.length) (s : List UInt8) : qof L.length f (qitems L f m ++ [s]) = qpush L f m s := by
  refine qext (qof_len _ _ _) (qpush_len _ _ _ _) fun j hj => ?_
  rw [qof_at _ _ _ hj, qgetD_more, qitems_len]
  unfold qpush
  rw [qgetD_set (qs_lt h.lo)]
  have e : qat L f (qp L.length f j) = L.getD j [] := by unfold qat; rw [qs_qp h.start hj]
  by_cases h1 : qp L.length f j < m
  · have : ¬ j = qs L.length f m := by rintro rfl; rw [qp_qs h.start hm] at h1; omega
    rw [if_pos h1, if_neg this, qitems_at, if_pos h1, e]
  · rw [if_neg h1]
    by_cases h2 : qp L.length f j = m
    · have : j = qs L.length f m := by rw [← h2, qs_qp h.start hj]
      rw [if_pos h2, if_pos this]
    · have : ¬ j = qs L.length f m := by rintro rfl; rw [qp_qs h.start hm] at h2; omega
      rw [if_neg h2, if_neg this, ← e, h.out _ (qp_lt h.lo) (by omega)]
theorem QR.push {L : List (List UInt8)} {f m : Nat} (h : QR L f m) (hm : m < L.length) (s : List UInt8) : QR (qpush L f m s) f (m + 1) ∧ qitems (qpush L f m s) f (m + 1) = qitems L f m ++ [s] := by
  have hl : (qitems L f m ++ [s]).length = m + 1 := by rw [List.length_append, qitems_len]; rfl
  have h1 := qof_right (l := qitems L f m ++ [s]) h.lo h.hi h.start (by omega)
  have h2 := qof_items (l := qitems L f m ++ [s]) h.lo h.start (by omega)
  rw [h.push_of hm, hl] at h1 h2
  exact ⟨h1, h2⟩

/-- Some fewer. -/
def qdrop (L : List (List UInt8)) (f k : Nat) : List (List UInt8) := (List.range L.length).map fun j => if qp L.length f j < k then [] else L.getD j []
theorem qdrop_len (L : List (List UInt8)) (f k : Nat) : (qdrop L f k).length = L.length := by simp [qdrop]
theorem qdrop_at (L : List (List UInt8)) (f k : Nat) {j : Nat} (h : j < L.length) : (qdrop L f k).getD j [] = if qp L.length f j < k then [] else L.getD j [] := by simp [qdrop, List.getD, h]
theorem qdrop_zero (L : List (List UInt8)) (f : Nat) : qdrop L f 0 = L := qext (qdrop_len _ _ _) rfl fun j hj => by rw [qdrop_at _ _ _ hj, if_neg (by omega)]
theorem qdrop_more {L : List (List UInt8)} {f k : Nat} (hf : f < L.length) (hk : k < L.length) : (qdrop L f k).set (qs L.length f k) [] = qdrop L f (k + 1) := by
  refine qext (by rw [List.length_set, qdrop_len]) (qdrop_len _ _ _) fun j hj => ?_
  rw [qgetD_set (by rw [qdrop_len]; exact qs_lt (by omega)), qdrop_at _ _ _ hj, qdrop_at _ _ _ hj]
  by_cases h1 : j = qs L.length f k
  · have : qp L.length f j = k := by rw [h1, qp_qs hf hk]
    rw [if_pos h1, if_pos (by omega)]
  · have : ¬ qp L.length f j = k := fun e => h1 (by rw [← e, qs_qp hf hj])
    rw [if_neg h1]
    by_cases h2 : qp L.length f j < k
    · rw [if_pos h2, if_pos (by omega)]
    · rw [if_neg h2, if_neg (by omega)]
theorem QR.drop_of {L : List (List UInt8)} {f m k : Nat} (h : QR L f m) (hk : k ≤ m) : qof L.length (qs L.length f k) ((qitems L f m).drop k) = qdrop L f k := by
  have hm := h.many
  refine qext (qof_len _ _ _) (qdrop_len _ _ _) fun j hj => ?_
  rw [qof_at _ _ _ hj, qdrop_at _ _ _ hj, qgetD_drop, qp_drop h.start (by omega) hj, qitems_at]
  have e : qat L f (qp L.length f j) = L.getD j [] := by unfold qat; rw [qs_qp h.start hj]
  have hl := qp_lt (n := L.length) (f := f) (j := j) h.lo
  by_cases h1 : qp L.length f j < k
  · rw [if_pos h1, if_neg (by omega : ¬ k ≤ qp L.length f j), if_neg (by omega)]
  · rw [if_neg h1, if_pos (by omega : k ≤ qp L.length f j), show k + (qp L.length f j - k) = qp L.length f j by omega]
    by_cases h2 : qp L.length f j < m
    · rw [if_pos h2, e]
    · rw [if_neg h2, ← e, h.out _ hl (by omega)]
theorem QR.drop {L : List (List UInt8)} {f m k : Nat} (h : QR L f m) (hk : k ≤ m) : QR (qdrop L f k) (qs L.length f k) (m - k) ∧ qitems (qdrop L f k) (qs L.length f k) (m - k) = (qitems L f m).drop k := by
  have hm := h.many
  have hl : ((qitems L f m).drop k).length = m - k := by rw [List.length_drop, qitems_len]
  have h1 := qof_right (l := (qitems L f m).drop k) h.lo h.hi (qs_lt (n := L.length) (f := f) (i := k) h.lo) (by omega)
  have h2 := qof_items (l := (qitems L f m).drop k) h.lo (qs_lt (n := L.length) (f := f) (i := k) h.lo) (by omega)
  rw [h.drop_of hk, hl] at h1 h2
  exact ⟨h1, h2⟩
/-- .. and then others: as many at once. -/
theorem QR.drop_two {L : List (List UInt8)} {f m k j : Nat} (h : QR L f m) (hk : k + j ≤ m) : qdrop (qdrop L f k) (qs L.length f k) j = qdrop L f (k + j) := by
  obtain ⟨h1, h2⟩ := h.drop (k := k) (by omega)
  have h3 := h1.drop_of (k := j) (by omega)
  rw [h2, List.drop_drop, qdrop_len, qs_add, h.drop_of hk] at h3
  exact h3.symm

/-- Whether a ring may be. -/
def qright (L : List (List UInt8)) (f m : Int) : Bool :=
  decide ((1 ≤ L.length ∧ L.length ≤ 64) ∧ (0 ≤ f ∧ f < (L.length : Int)) ∧ (0 ≤ m ∧ m ≤ (L.length : Int)) ∧ ∀ i, i < L.length → m.toNat ≤ i → qat L f.toNat i = [])
theorem qright_iff {L : List (List UInt8)} {f m : Int} : qright L f m = true ↔ ∃ a b : Nat, f = (a : Int) ∧ m = (b : Int) ∧ QR L a b := by
  unfold qright
  rw [decide_eq_true_iff]
  constructor
  · rintro ⟨⟨h1, h2⟩, ⟨h3, h4⟩, ⟨h5, h6⟩, h7⟩
    exact ⟨f.toNat, m.toNat, by omega, by omega, h1, h2, by omega, by omega, h7⟩
  · rintro ⟨a, b, rfl, rfl, h⟩
    have h3 := h.start
    have h4 := h.many
    refine ⟨⟨h.lo, h.hi⟩, ⟨by omega, by omega⟩, ⟨by omega, by omega⟩, fun i hi hm => ?_⟩
    rw [Int.toNat_natCast] at hm ⊢
    exact h.out i hi hm
theorem qright_mk {L : List (List UInt8)} {f m : Nat} (h : QR L f m) : qright L (f : Int) (m : Int) = true := qright_iff.2 ⟨f, m, rfl, rfl, h⟩
/-- .. told slot by slot. -/
theorem QR.slot {L : List (List UInt8)} {f m : Nat} (h1 : 1 ≤ L.length) (hf : f < L.length) : (∀ i, i < L.length → m ≤ i → qat L f i = []) ↔ ∀ j, j < L.length → L.getD j [] = [] ∨ qp L.length f j < m := by
  constructor
  · intro h j hj
    by_cases hm : qp L.length f j < m
    · exact .inr hm
    · left
      have := h _ (qp_lt h1) (by omega : m ≤ qp L.length f j)
      unfold qat at this
      rwa [qs_qp hf hj] at this
  · intro h i hi hm
    unfold qat
    rcases h (qs L.length f i) (qs_lt h1) with e | e
    · exact e
    · rw [qp_qs hf hi] at e; omega
/-- Whether two are the same. -/
def qsame (L : List (List UInt8)) (f m : Int) (K : List (List UInt8)) (g k : Int) : Bool := (decide (f = g) && decide (m = k)) && decide (L = K)
theorem qsame_refl (L : List (List UInt8)) (f m : Int) : qsame L f m L f m = true := by simp [qsame]
/-- A new one. -/
theorem qnew_right {n : Nat} (h1 : 1 ≤ n) (h2 : n ≤ 64) : QR (List.replicate n []) 0 0 := by
  refine ⟨by simpa using h1, by simpa using h2, by simp; omega, by simp, fun i _ _ => ?_⟩
  unfold qat
  simp [List.getD, List.getElem?_replicate]
  split <;> rfl
end Go.Proofs.Ytnehodipblabbaa
