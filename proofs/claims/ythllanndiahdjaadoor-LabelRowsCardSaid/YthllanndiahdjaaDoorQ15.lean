/- Texts of this seat, one behind the other: YMath, YLeaf, YLaw, YBack, YPiece. -/
import Derived.BigQuiet
import Derived.Test.YthllanndiahdjaaDoorQ02
import Derived.Test.YthllanndiahdjaaDoorQ03
import Derived.Test.YthllanndiahdjaaDoorQ04
import Derived.Test.YthllanndiahdjaaDoorQ08
import Derived.Test.YthllanndiahdjaaDoorQ09
import Derived.Test.YthllanndiahdjaaDoorQ12
import Derived.Test.YthllanndiahdjaaDoorQ13
import Derived.Test.YthllanndiahdjaaDoorQ14
/- Rows of labels, in plain lists. Nothing of any function. -/
namespace Go.Proofs.YthllanndiahdjaaDoor

theorem hsum32 (s : List UInt8) : (hsumL s).length = 32 := by rw [hsumL, bytesW_len, sumN_len]
/-- What is summed for an item; an item's label, the head's, labels joined. -/
def yitem (x : ItL) : List UInt8 := [0] ++ low x.1 8 ++ (low x.2.length 2 ++ x.2)
def yleaf (x : ItL) : List UInt8 := hsumL (yitem x)
def yhead : List UInt8 := hsumL [1]
def ytext (lev : Nat) (L : List (List UInt8)) : List UInt8 := [2] ++ low lev 8 ++ L.flatten
def yjoin (lev : Nat) (L : List (List UInt8)) : List UInt8 := hsumL (ytext lev L)

/-- The places, below j, that are higher than a level. -/
def yhi (H : List Nat) (lev : Nat) (j : Nat) : List Nat := (List.range j).filter fun i => decide (lev < H.getD i 0)
theorem yhi_zero (H : List Nat) (lev : Nat) : yhi H lev 0 = [] := rfl
theorem yhi_yes {H : List Nat} {lev j : Nat} (h : lev < H.getD j 0) : yhi H lev (j + 1) = yhi H lev j ++ [j] := by
  simp only [yhi, List.range_succ, List.filter_append, List.filter_cons, List.filter_nil]
  rw [if_pos (by simpa using h)]
theorem yhi_no {H : List Nat} {lev j : Nat} (h : ¬ lev < H.getD j 0) : yhi H lev (j + 1) = yhi H lev j := by
  simp only [yhi, List.range_succ, List.filter_append, List.filter_cons, List.filter_nil]
  rw [if_neg (by simpa using h), List.append_nil]
theorem yhi_len (H : List Nat) (lev j : Nat) : (yhi H lev j).length ≤ j := by
  have := List.length_filter_le (fun i => decide (lev < H.getD i 0)) (List.range j)
  rwa [List.length_range] at this
theorem yhi_lt {H : List Nat} {lev j i : Nat} (h : i ∈ yhi H lev j) : i < j ∧ lev < H.getD i 0 := by
  simp only [yhi, List.mem_filter, List.mem_range, decide_eq_true_eq] at h
  exact h
theorem yhi_pair (H : List Nat) (lev j : Nat) : (yhi H lev j).Pairwise (· < ·) := List.Pairwise.filter _ List.pairwise_lt_range

/-- A list's pieces: from each of some places on, up to ahead of the next one. -/
def yend (P : List Nat) (n i : Nat) : Nat := if i + 1 < P.length then P.getD (i + 1) 0 else n
def ycut {α : Type} (L : List α) : List Nat → List (List α)
  | [] => []
  | p :: ps => ((L.take (ps.headD L.length)).drop p) :: ycut L ps
theorem ycut_len {α : Type} (L : List α) (P : List Nat) : (ycut L P).length = P.length := by
  induction P with
  | nil => rfl
  | cons p ps ih => simp [ycut, ih]
theorem ycut_at {α : Type} (L : List α) (P : List Nat) : ∀ i, i < P.length → (ycut L P).getD i [] = (L.take (yend P L.length i)).drop (P.getD i 0) := by
  induction P with
  | nil => intro i h; cases h
  | cons p ps ih =>
    intro i h
    cases i with
    | zero =>
      cases ps with
      | nil => simp [ycut, yend]
      | cons q qs => simp [ycut, yend, List.getD]
    | succ i =>
      have := ih i (by simpa using h)
      have e : yend (p :: ps) L.length (i + 1) = yend ps L.length i := by
        simp only [yend, List.length_cons]
        by_cases hh : i + 1 < ps.length
        · rw [if_pos (by omega), if_pos hh]; rfl
        · rw [if_neg (by omega), if_neg hh]
      rw [e]
      exact this
/-- The places rise, and end ahead of the list's end. -/
def YRise (P : List Nat) (n : Nat) : Prop := ∀ i, i < P.length → P.getD i 0 < yend P n i ∧ yend P n i ≤ n
theorem yrise_of {P : List Nat} {n : Nat} (hp : P.Pairwise (· < ·)) (hn : ∀ x ∈ P, x < n) : YRise P n := fun i hi => by
  unfold yend
  have e : P.getD i 0 = P[i] := by simp [List.getD, hi]
  by_cases h : i + 1 < P.length
  · have e2 : P.getD (i + 1) 0 = P[i + 1] := by simp [List.getD, h]
    rw [if_pos h, e, e2]
    exact ⟨List.pairwise_iff_getElem.1 hp i (i + 1) hi h (by omega), Nat.le_of_lt (hn _ (List.getElem_mem h))⟩
  · rw [if_neg h, e]
    exact ⟨hn _ (List.getElem_mem hi), Nat.le_refl _⟩
theorem yhi_rise (H : List Nat) (lev n : Nat) : YRise (yhi H lev n) n := yrise_of (yhi_pair H lev n) fun _ hx => (yhi_lt hx).1
theorem yend_pred {P : List Nat} {n i : Nat} (h : i + 1 < P.length) : yend P n i = P.getD (i + 1) 0 := by rw [yend, if_pos h]
theorem yend_last {P : List Nat} {n i : Nat} (h : ¬ i + 1 < P.length) : yend P n i = n := by rw [yend, if_neg h]
theorem ypiece_len {α : Type} (L : List α) (a b : Nat) (h : b ≤ L.length) : ((L.take b).drop a).length = b - a := by simp; omega
theorem ypiece_at (L : List Nat) (a b j : Nat) (h : a + j < b) : ((L.take b).drop a).getD j 0 = L.getD (a + j) 0 := by
  simp only [List.getD, List.getElem?_drop, List.getElem?_take]
  rw [if_pos h]

/-- Where those lie that are big, and what begins with each. -/
def ypos {α : Type} (big : α → Bool) : Nat → List α → List Nat
  | _, [] => []
  | o, x :: xs => if big x = true then o :: ypos big (o + 1) xs else ypos big (o + 1) xs
def ygrp {α : Type} (big : α → Bool) : List α → List (List α)
  | [] => []
  | x :: xs => if big x = true then (x :: xs.takeWhile (fun y => !big y)) :: ygrp big xs else ygrp big xs
theorem ypos_map {α β : Type} (h : α → β) (big : β → Bool) (A : List α) : ∀ o, ypos big o (A.map h) = ypos (fun x => big (h x)) o A := by
  induction A with
  | nil => intro o; rfl
  | cons x xs ih => intro o; simp only [List.map_cons, ypos, ih]
theorem ypos_hi (V : List Nat) (lev : Nat) : yhi V lev V.length = ypos (fun x => decide (lev < x)) 0 V := by
  suffices h : ∀ (V B : List Nat), (List.range' B.length V.length).filter (fun i => decide (lev < (B ++ V).getD i 0)) = ypos (fun x => decide (lev < x)) B.length V by
    have := h V []
    simp only [List.length_nil, List.nil_append] at this
    rw [← this, yhi, List.range_eq_range']
  intro V
  induction V with
  | nil => intro B; rfl
  | cons v V ih =>
    intro B
    have h1 := ih (B ++ [v])
    simp only [List.length_append, List.length_cons, List.length_nil, List.append_assoc, List.singleton_append, Nat.zero_add] at h1
    have e : (B ++ v :: V).getD B.length 0 = v := by simp [List.getD]
    rw [List.length_cons, List.range'_succ, List.filter_cons, h1, ypos, e]
theorem ypos_head {α : Type} (big : α → Bool) (xs : List α) : ∀ o, (ypos big o xs).headD (o + xs.length) = o + (xs.takeWhile (fun y => !big y)).length := by
  induction xs with
  | nil => intro o; rfl
  | cons x xs ih =>
    intro o
    have := ih (o + 1)
    rw [ypos, List.takeWhile_cons]
    by_cases h : big x = true
    · simp [h]
    · rw [if_neg h]
      simp only [Bool.not_eq_true] at h
      simp only [h, Bool.not_false, if_true, List.length_cons]
      rw [show o + (xs.length + 1) = o + 1 + xs.length by omega, this]
      omega
theorem ytake_while {α : Type} (p : α → Bool) (xs : List α) : xs.take (xs.takeWhile p).length = xs.takeWhile p := (List.prefix_iff_eq_take.1 (List.takeWhile_prefix p)).symm
theorem ycut_grp {α β : Type} (big : α → Bool) (f : α → β) (A : List α) : ∀ B : List α, ycut ((B ++ A).map f) (ypos big B.length A) = (ygrp big A).map (List.map f) := by
  induction A with
  | nil => intro B; rfl
  | cons x xs ih =>
    intro B
    have h1 := ih (B ++ [x])
    simp only [List.length_append, List.length_cons, List.length_nil, List.append_assoc, List.singleton_append, Nat.zero_add] at h1
    rw [ypos, ygrp]
    by_cases h : big x = true
    · rw [if_pos h, if_pos h, ycut, h1, List.map_cons]
      congr 1
      have h2 := ypos_head big xs (B.length + 1)
      have h3 : ((B ++ x :: xs).map f).length = B.length + 1 + xs.length := by simp; omega
      rw [h3, h2, List.map_append, List.map_cons]
      have h4 : B.length = (B.map f).length := by simp
      rw [h4, Nat.add_assoc, List.take_length_add_append, List.drop_left, Nat.add_comm 1, List.take_succ_cons, List.map_cons, ← List.map_take, ytake_while]
    · rw [if_neg h, if_neg h, h1]
/-- .. of a list of which those that are low were left out. -/
def ysel {α : Type} (hi lo : α → Bool) : List α → List (List α)
  | [] => []
  | x :: xs => if hi x = true then (x :: (xs.takeWhile (fun y => !hi y)).filter lo) :: ysel hi lo xs else ysel hi lo xs
theorem ywhile_filter {α : Type} {hi lo : α → Bool} (hl : ∀ x, hi x = true → lo x = true) (R : List α) : (R.filter lo).takeWhile (fun y => !hi y) = (R.takeWhile (fun y => !hi y)).filter lo := by
  induction R with
  | nil => rfl
  | cons x xs ih =>
    rw [List.filter_cons, List.takeWhile_cons]
    by_cases h : hi x = true
    · rw [if_pos (hl x h), List.takeWhile_cons]
      simp [h]
    · simp only [Bool.not_eq_true] at h
      by_cases h2 : lo x = true
      · rw [if_pos h2, List.takeWhile_cons]
        simp [h, h2, ih]
      · rw [if_neg h2]
        simp [h, h2, ih]
theorem ygrp_filter {α : Type} {hi lo : α → Bool} (hl : ∀ x, hi x = true → lo x = true) (R : List α) : ygrp hi (R.filter lo) = ysel hi lo R := by
  induction R with
  | nil => rfl
  | cons x xs ih =>
    rw [List.filter_cons, ysel]
    by_cases h : hi x = true
    · rw [if_pos (hl x h), ygrp, if_pos h, if_pos h, ih, ywhile_filter hl]
    · rw [if_neg h]
      by_cases h2 : lo x = true
      · rw [if_pos h2, ygrp, if_neg h, ih]
      · rw [if_neg h2, ih]
theorem ysel_range (hi lo : Nat → Bool) (k : Nat) : ∀ s, ysel hi lo (List.range' s k) = ((List.range' s k).filter hi).map fun q => q :: ((List.range' (q + 1) (s + k - (q + 1))).takeWhile (fun y => !hi y)).filter lo := by
  induction k with
  | zero => intro s; rfl
  | succ k ih =>
    intro s
    have h1 := ih (s + 1)
    rw [show s + 1 + k = s + (k + 1) by omega] at h1
    rw [List.range'_succ, ysel, List.filter_cons]
    by_cases h : hi s = true
    · rw [if_pos h, if_pos h, List.map_cons, h1, show s + (k + 1) - (s + 1) = k by omega]
    · rw [if_neg h, if_neg h, h1]
theorem ywhile_range (p : Nat → Bool) (j : Nat) : ∀ s k, j ≤ k → (∀ i, i < j → p (s + i) = true) → (j = k ∨ ¬ p (s + j) = true) → (List.range' s k).takeWhile p = List.range' s j := by
  induction j with
  | zero =>
    intro s k _ _ h
    rcases h with rfl | h
    · rfl
    · cases k with
      | zero => rfl
      | succ k =>
        rw [Nat.add_zero] at h
        rw [List.range'_succ, List.takeWhile_cons, if_neg h]
        rfl
  | succ j ih =>
    intro s k hk h1 h2
    cases k with
    | zero => omega
    | succ k =>
      have h3 := h1 0 (by omega)
      rw [Nat.add_zero] at h3
      rw [List.range'_succ, List.takeWhile_cons, if_pos h3, List.range'_succ, ih (s + 1) k (by omega) (fun i hi => by rw [show s + 1 + i = s + (i + 1) by omega]; exact h1 _ (by omega)) (by
        rcases h2 with h2 | h2
        · left; omega
        · right; rw [show s + 1 + j = s + (j + 1) by omega]; exact h2)]

/-- What is joined from a place on (0: the head), on the level above lev: the place, and those behind it that are higher than lev, up to the next that is higher than lev + 1. -/
def yfrom (H : List Nat) (lev q : Nat) : List Nat := q :: ((List.range' (q + 1) (H.length - (q + 1))).takeWhile (fun i => !decide (lev + 1 < H.getD i 0))).filter fun i => decide (lev < H.getD i 0)
theorem yfrom_is (H : List Nat) (lev q j : Nat) (hj : q + 1 + j ≤ H.length) (h1 : ∀ i, i < j → ¬ lev + 1 < H.getD (q + 1 + i) 0) (h2 : q + 1 + j = H.length ∨ lev + 1 < H.getD (q + 1 + j) 0) :
    yfrom H lev q = q :: (List.range' (q + 1) j).filter fun i => decide (lev < H.getD i 0) := by
  rw [yfrom, ywhile_range _ j (q + 1) _ (by omega) (fun i hi => by simp only [Bool.not_eq_true', decide_eq_false_iff_not]; exact h1 i hi) (by
    rcases h2 with h2 | h2
    · left; omega
    · right
      simp only [Bool.not_eq_true', decide_eq_false_iff_not]
      exact fun h => h h2)]
/-- The label of a place, on a level. -/
def ylab (base : Nat → List UInt8) (H : List Nat) : Nat → Nat → List UInt8
  | 0, q => base q
  | lev + 1, q => yjoin (lev + 1) ((yfrom H lev q).map (ylab base H lev))
/-- A level's row; and how high its labels stand. -/
def yrow (base : Nat → List UInt8) (H : List Nat) (lev : Nat) : List (List UInt8) := (yhi H lev H.length).map (ylab base H lev)
def yhts (H : List Nat) (lev : Nat) : List Nat := (yhi H lev H.length).map fun q => H.getD q 0
theorem yrow_len (base : Nat → List UInt8) (H : List Nat) (lev : Nat) : (yrow base H lev).length = (yhi H lev H.length).length := List.length_map _
theorem yhts_len (H : List Nat) (lev : Nat) : (yhts H lev).length = (yhi H lev H.length).length := List.length_map _
/-- The places to cut at. -/
theorem ycut_step {β : Type} (H : List Nat) (lev : Nat) (f : Nat → β) : ycut ((yhi H lev H.length).map f) (yhi (yhts H lev) (lev + 1) (yhts H lev).length) = (yhi H (lev + 1) H.length).map fun q => (yfrom H lev q).map f := by
  rw [ypos_hi (yhts H lev), yhts, ypos_map]
  have h1 := ycut_grp (fun q => decide (lev + 1 < H.getD q 0)) f (yhi H lev H.length) []
  simp only [List.nil_append, List.length_nil] at h1
  rw [h1]
  unfold yhi
  rw [ygrp_filter (fun x hx => by simp only [decide_eq_true_eq] at hx ⊢; omega), List.range_eq_range', ysel_range, List.map_map]
  simp only [Nat.zero_add]
  rfl
theorem yrow_step (base : Nat → List UInt8) (H : List Nat) (lev : Nat) : (ycut (yrow base H lev) (yhi (yhts H lev) (lev + 1) (yhts H lev).length)).map (yjoin (lev + 1)) = yrow base H (lev + 1) := by
  rw [yrow, ycut_step, List.map_map]
  rfl
theorem yhts_step (H : List Nat) (lev : Nat) : (ycut (yhts H lev) (yhi (yhts H lev) (lev + 1) (yhts H lev).length)).map (fun g => g.getD 0 0) = yhts H (lev + 1) := by
  have h := ycut_step H lev (fun q => H.getD q 0)
  rw [show (yhi H lev H.length).map (fun q => H.getD q 0) = yhts H lev from rfl] at h
  rw [h, List.map_map]
  rfl
/-- Rows get no longer. -/
theorem yrow_less (base : Nat → List UInt8) (H : List Nat) (lev : Nat) : (yrow base H (lev + 1)).length ≤ (yrow base H lev).length := by
  rw [yrow_len, yrow_len]
  have e : yhi H (lev + 1) H.length = (yhi H lev H.length).filter fun i => decide (lev + 1 < H.getD i 0) := by
    unfold yhi
    rw [List.filter_filter]
    congr 1
    funext i
    rw [← Bool.decide_and]
    congr 1
    apply propext
    omega
  rw [e]
  exact List.length_filter_le _ _
theorem yrow_le (base : Nat → List UInt8) (H : List Nat) (lev : Nat) : (yrow base H lev).length ≤ H.length := by
  rw [yrow_len]
  exact yhi_len _ _ _

/-- The labels of a list's places, and their heights. -/
def ybase (Z : List ItL) (q : Nat) : List UInt8 := if q = 0 then yhead else yleaf (Z.getD (q - 1) (0, []))
def yht (k : List UInt8) (Z : List ItL) : List Nat := 9 :: hsL k (ikeys Z)
theorem yht_len (k : List UInt8) (Z : List ItL) : (yht k Z).length = Z.length + 1 := by simp [yht, hsL_len, ikeys_len]
theorem yht_zero (k : List UInt8) (Z : List ItL) : (yht k Z).getD 0 0 = 9 := rfl
theorem yht_at (k : List UInt8) (Z : List ItL) (j : Nat) : (yht k Z).getD (j + 1) 0 = (hsL k (ikeys Z)).getD j 0 := rfl
theorem yht_one (k : List UInt8) (Z : List ItL) (j : Nat) (h : j < Z.length) : 1 ≤ (yht k Z).getD (j + 1) 0 ∧ (yht k Z).getD (j + 1) 0 ≤ 8 := by
  rw [yht_at, hsL_at _ _ _ (by rw [ikeys_len]; exact h)]
  exact hL_le _ _
theorem yhi_all (k : List UInt8) (Z : List ItL) (j : Nat) (h : j ≤ Z.length + 1) : yhi (yht k Z) 0 j = List.range j := by
  unfold yhi
  rw [List.filter_eq_self]
  intro i hi
  rw [List.mem_range] at hi
  simp only [decide_eq_true_eq]
  cases i with
  | zero => rw [yht_zero]; omega
  | succ i => have := (yht_one k Z i (by omega)).1; omega
theorem ymap_getD {α : Type} (L : List α) (d : α) : (List.range L.length).map (fun q => L.getD q d) = L := by
  apply List.ext_getElem
  · simp
  · intro i h1 h2
    simp [List.getD, h2]
theorem yhts_zero (k : List UInt8) (Z : List ItL) : yhts (yht k Z) 0 = yht k Z := by
  rw [yhts, yhi_all _ _ _ (by rw [yht_len]; exact Nat.le_refl _)]
  exact ymap_getD _ _
theorem yrow_zero (k : List UInt8) (Z : List ItL) : yrow (ybase Z) (yht k Z) 0 = yhead :: Z.map yleaf := by
  rw [yrow, yhi_all _ _ _ (by rw [yht_len]; exact Nat.le_refl _), yht_len, List.range_succ_eq_map, List.map_cons, List.map_map]
  congr 1
  show (List.range Z.length).map (yleaf ∘ fun q => Z.getD q (0, [])) = _
  rw [← List.map_map, ymap_getD]
/-- The row of a list of a level, and its label. -/
def yrowL (k : List UInt8) (Z : List ItL) (lev : Nat) : List (List UInt8) := yrow (ybase Z) (yht k Z) lev
def yroot (k : List UInt8) (Z : List ItL) : List UInt8 := ylab (ybase Z) (yht k Z) 8 0
theorem yhi_head (k : List UInt8) (Z : List ItL) (lev : Nat) (h : lev ≤ 8) : yhi (yht k Z) lev 1 = [0] := by
  rw [yhi_yes (by rw [yht_zero]; omega), yhi_zero, List.nil_append]
theorem yhi_last (k : List UInt8) (Z : List ItL) : ∀ j, j ≤ Z.length → yhi (yht k Z) 8 (j + 1) = [0] := by
  intro j
  induction j with
  | zero => intro _; exact yhi_head k Z 8 (by omega)
  | succ j ih =>
    intro h
    rw [yhi_no (by have := (yht_one k Z j (by omega)).2; omega), ih (by omega)]
theorem yrow_last (k : List UInt8) (Z : List ItL) : yrowL k Z 8 = [yroot k Z] := by
  rw [yrowL, yrow, yht_len, yhi_last k Z Z.length (Nat.le_refl _)]
  rfl
theorem yhi_pos (k : List UInt8) (Z : List ItL) (lev : Nat) (h : lev ≤ 8) : ∀ j, 1 ≤ (yhi (yht k Z) lev (j + 1)).length := by
  intro j
  induction j with
  | zero => rw [yhi_head k Z lev h]; exact Nat.le_refl _
  | succ j ih =>
    by_cases hh : lev < (yht k Z).getD (j + 1) 0
    · rw [yhi_yes hh]; simp
    · rw [yhi_no hh]; exact ih
theorem yrowL_pos (k : List UInt8) (Z : List ItL) (lev : Nat) (h : lev ≤ 8) : 1 ≤ (yrowL k Z lev).length := by
  rw [yrowL, yrow_len, yht_len]
  exact yhi_pos k Z lev h _
theorem yrowL_le (k : List UInt8) (Z : List ItL) (lev : Nat) : (yrowL k Z lev).length ≤ Z.length + 1 := by
  have := yrow_le (ybase Z) (yht k Z) lev
  rwa [yht_len] at this
theorem ylab_len (k : List UInt8) (Z : List ItL) (lev q : Nat) : (ylab (ybase Z) (yht k Z) lev q).length = 32 := by
  cases lev with
  | zero =>
    show (ybase Z q).length = 32
    unfold ybase
    split
    · exact hsum32 _
    · exact hsum32 _
  | succ lev => exact hsum32 _
theorem yrowL_32 (k : List UInt8) (Z : List ItL) (lev : Nat) : ∀ x ∈ yrowL k Z lev, x.length = 32 := by
  intro x hx
  simp only [yrowL, yrow, List.mem_map] at hx
  obtain ⟨q, _, rfl⟩ := hx
  exact ylab_len _ _ _ _
end Go.Proofs.YthllanndiahdjaaDoor
/- The contracts of leaf and Leaf; of the reference's Item and Leaf. -/
namespace Go.Proofs.YthllanndiahdjaaDoor
open Go.RowKit

theorem yitem_len (x : ItL) : (yitem x).length = 11 + x.2.length := by
  simp [yitem, low_length]; omega

set_option maxRecDepth 100000 in
set_option maxHeartbeats 1000000 in
theorem ylf_any (k : Nat) (s : List UInt8) (w : World) (hs : s.length ≤ 64) (hk : k < 18446744073709551616) :
    Calls Tryd.prog 22 #[.agg #[.int .u64 (k : Int), sv s]] w fun e w' => e = .returned (.string ⟨(yleaf (k, s)).toArray⟩) ∧ Below w.heap.size w w' := by
  have hb0 := ba (Below.refl w.heap.size w) (.cells #[.int .u64 (k : Int), sv s] 24)
  have HK := Lib.hid (Blk.new w 24 #[.int .u64 (k : Int), sv s])
  have T1 := Lib.hid (text_ok s (w.alloc (.cells #[.int .u64 (k : Int), sv s] 24)) (by omega))
  have T2 := Lib.hid (fun W => number_any k W (by omega))
  have e : enc (true, 0, s) = low s.length 2 ++ s := by rw [enc, if_pos rfl]
  rw [e] at T1
  have T3 := Lib.hid (fun W => sum_any (yitem (k, s)) W (by rw [yitem_len]; simp only; omega))
  have l1 : (low k 8).length = 8 := low_length _ _
  have l2 : (low s.length 2 ++ s).length ≤ 70 := by rw [List.length_append, low_length]; omega
  have HY : Hid (yitem (k, s) = [0] ++ low k 8 ++ (low s.length 2 ++ s)) := Lib.hid rfl
  have HZ : Hid (yleaf (k, s) = hsumL (yitem (k, s))) := Lib.hid rfl
  rw [HZ.out]
  rw [HY.out] at T3 ⊢
  clear HY HZ e hs hk
  generalize low k 8 = a at *
  generalize low s.length 2 ++ s = b at *
  have a1 : ∀ W : World, (Op.stringOp .add ⟨[(0 : UInt8)].toArray⟩ ⟨a.toArray⟩).run Tryd.prog W = .ok (.string ⟨([0] ++ a).toArray⟩) W := fun W => run_string_add_lists (P := Tryd.prog) W [0] a (by simp) (by omega)
  have a2 : ∀ W : World, (Op.stringOp .add ⟨([0] ++ a).toArray⟩ ⟨b.toArray⟩).run Tryd.prog W = .ok (.string ⟨([0] ++ a ++ b).toArray⟩) W := fun W => run_string_add_lists (P := Tryd.prog) W ([0] ++ a) b (by simp; omega) (by omega)
  generalize hsumL ([0] ++ a ++ b) = h at *
  generalize [0] ++ a ++ b = c at *
  generalize [0] ++ a = d at *
  clear l1 l2
  have d1 := HK.out.cell 1
  go_enter Tryd.func22, Tryd.ntmps22
  go_wp2_with fail
  refine T1.out.mono ?_
  rintro e w1 ⟨rfl, hb1⟩
  have d0 := (HK.out.below hb1).cell 0
  have hb2 := bt hb0 hb1
  go_wp2_with fail
  refine (T2.out _).mono ?_
  rintro e w2 ⟨rfl, hb3⟩
  go_wp2_with fail
  refine (T3.out _).mono ?_
  rintro e w3 ⟨rfl, hb4⟩
  have hb5 := bt hb2 (bt hb3 hb4)
  go_wp2
  go_ret
  exact ⟨rfl, hb5⟩

set_option maxRecDepth 100000 in
set_option maxHeartbeats 1000000 in
theorem yLeaf_no (k : Nat) (s : List UInt8) (w : World) (hs : 64 < s.length) (hm : (s.length : Int) ≤ 9223372036854775807) :
    Calls Tryd.prog 7 #[.agg #[.int .u64 (k : Int), sv s]] w fun e w' => e = .returned (.tuple #[.string ⟨#[]⟩, .int .i64 4]) ∧ Below w.heap.size w w' := by
  have hb0 := ba (Below.refl w.heap.size w) (.cells #[.int .u64 (k : Int), sv s] 24)
  have d1 := (Blk.new w 24 #[.int .u64 (k : Int), sv s]).cell 1
  have hz := isize s
  go_enter Tryd.func7, Tryd.ntmps7
  go_wp2
  go_ret2
  exact ⟨rfl, hb0⟩

set_option maxRecDepth 100000 in
set_option maxHeartbeats 1000000 in
theorem yLeaf_yes (k : Nat) (s : List UInt8) (w : World) (hs : s.length ≤ 64) (hk : k < 18446744073709551616) :
    Calls Tryd.prog 7 #[.agg #[.int .u64 (k : Int), sv s]] w fun e w' => e = .returned (.tuple #[.string ⟨(yleaf (k, s)).toArray⟩, .int .i64 0]) ∧ Below w.heap.size w w' := by
  have hb0 := ba (Below.refl w.heap.size w) (.cells #[.int .u64 (k : Int), sv s] 24)
  have hz := isize s
  have T1 := Lib.hid (fun W => ylf_any k s W hs hk)
  generalize yleaf (k, s) = h at *
  go_enter Tryd.func7, Tryd.ntmps7
  go_wp2_with fail
  refine (T1.out _).mono ?_
  rintro e w1 ⟨rfl, hb1⟩
  have hb2 := bt hb0 hb1
  go_wp2
  go_ret2
  exact ⟨rfl, hb2⟩
end Go.Proofs.YthllanndiahdjaaDoor
/- A loop over a function that hands pairs on and only makes memory: the body may turn whatever lies in no block of a set S. Nothing of any function. -/
namespace Go.Proofs.YthllanndiahdjaaDoor
open Go.RowKit Go.Shelf

/-- What a round that goes on keeps: the blocks of S. -/
def KpS (S : Nat → Prop) (W W' : World) : Prop := W.heap.size ≤ W'.heap.size ∧ ∀ k, S k → W'.heap[k]? = W.heap[k]?
theorem KpS.trans {S : Nat → Prop} {A B C : World} (h : KpS S A B) (k : KpS S B C) : KpS S A C := ⟨Nat.le_trans h.1 k.1, fun i hi => (k.2 i hi).trans (h.2 i hi)⟩
theorem KpS.refl (S : Nat → Prop) (W : World) : KpS S W W := ⟨Nat.le_refl _, fun _ _ => rfl⟩
theorem KpS.of_below {S : Nat → Prop} {A B : World} (h : Below A.heap.size A B) (hS : ∀ k, S k → k < A.heap.size) : KpS S A B := ⟨h.size, fun k hk => h.block k (hS k hk)⟩
theorem KpS.putObj {S : Nat → Prop} {l : Nat} {W : World} {o' : Obj} (hn : ¬ S l) : KpS S W (W.putObj l o') := ⟨by simp, fun k hk => World.putObj_heap_other (fun e => hn (e ▸ hk))⟩
theorem KpS.set_ {S : Nat → Prop} {W : World} {g o : Nat} {v : Value} (hn : ¬ S g) : KpS S W (W.setCell ⟨g, o, none⟩ v) := ⟨(Below.refl 0 W).setCell (p := ⟨g, o, none⟩) (Nat.zero_le _) v |>.size, fun k hk => Below.heap_setCell W ⟨g, o, none⟩ v k (fun e => hn (by have e' : k = g := e; exact e' ▸ hk))⟩
theorem KpS.blk {S : Nat → Prop} {W W' : World} {g : Nat} {t : TypeId} {cs : Array Value} (h : KpS S W W') (hg : S g) (hb : Blk W g t cs) : Blk W' g t cs := (h.2 g hg).trans hb

/-- What is asked of the function that hands the pairs on. -/
def HandsY {α : Type} (e1 e2 : α → Value) (n gf : Nat) (lb : Array Value) (S : Nat → Prop) (zs : List α) (w : World) : Prop :=
  ∀ (l : Nat) (J Jx : List α → World → Prop) (W : World), Below w.heap.size w W → AbV J →
    (∀ pre x W1, J pre W1 → (pre ++ [x]) <+: zs → YieldAt Fence.wide (n - 1) Tryd.prog l #[e1 x, e2 x] W1 fun e W' =>
      (e = .returned (.bool true) ∧ J (pre ++ [x]) W' ∧ KpS S W1 W') ∨ (e = .returned (.bool false) ∧ Jx (pre ++ [x]) W')) → J [] W →
    CallsIn Fence.wide n Tryd.prog gf (#[.func (.yield l) #[] #[]] ++ lb) W fun e W' => (∃ v, e = .returned v) ∧ (J zs W' ∨ ∃ pre, pre <+: zs ∧ Jx pre W')

/-- How a round may be left. -/
def LeftY {α : Type} (B : Nat) (S : Nat → Prop) (I : List α → World → Prop) (Ix : Code → List α → World → Prop) (xs : List α) (W : World) : Exit → Act → World → Prop
  | .normal, _, W' => KeepsFrom B W W' ∧ KpS S W W' ∧ I xs W'
  | .ret, _, W' => KeepsFrom B W W' ∧ Ix .ret xs W'
  | _, _, _ => False

set_option maxHeartbeats 1000000 in
theorem range_y {α : Type} {e1 e2 : α → Value} {n : Nat} {g : Operand} {p p2 : Tmp} {assign body : Code} {Q : Exit → Act → World → Prop} {a : Act} {w w0 : World} (hn : 1 ≤ n) {gf : Nat} {lb : Array Value}
    (hg : a.eval g = .func (.func gf) #[] lb) (eg : ∀ args w, (callFunc gf args).run Tryd.prog w = .ok (.enter gf args) w) {S : Nat → Prop} (hS : ∀ k, S k → k < w.heap.size) {zs : List α} (hH : HandsY e1 e2 (n - 1) gf lb S zs w0) (hb0 : Below w0.heap.size w0 w)
    (I : List α → World → Prop) (Ix : Code → List α → World → Prop) (hI : KeptV w.heap.size I) (hIx : ∀ c, KeptV w.heap.size (Ix c)) (h0 : I [] w) (Ax : α → Act → World → Prop) (hAx : ∀ x a' W l o o', Ax x a' W → w.heap.size ≤ l → W.heap[l]? = some o → o.isCells = false → Ax x a' (W.putObj l o'))
    (hassign : ∀ (l : Nat) (pre : List α) (x : α) (W : World) (K : Act → World → Prop), I pre W → (∀ a' W', KeepsFrom w.heap.size W W' → KpS S W W' → I pre W' → Ax x a' W' → K a' W') →
      assign.wpIn (Fence.wide.inRound l) (n - 1 - 1) Tryd.prog (Exit.then K (fun _ _ _ => False)) { tmps := (#[p, p2].zip #[e1 x, e2 x]).foldl (fun t (p, v) => t.setIfInBounds p v) a.tmps, defers := [] } W)
    (hbody : ∀ (l : Nat) (pre : List α) (x : α) (a' : Act) (W : World), w.heap.size ≤ l → I pre W → Ax x a' W → (pre ++ [x]) <+: zs → body.wpIn (Fence.wide.inRound l) (n - 1 - 1) Tryd.prog (LeftY w.heap.size S I Ix (pre ++ [x]) W) a' W)
    (hdone : ∀ (D : Nat) (W : World), w.heap.size ≤ D → I zs W → W.heap[D]? = some (.deferred (some [])) → Q .normal { a with defers := { target := .collected D, args := #[] } :: a.defers } W)
    (hstop : ∀ (D : Nat) (c : Code) (pre : List α) (W : World), w.heap.size ≤ D → pre <+: zs → Ix c pre W → W.heap[D]? = some (.deferred (some [])) → c.wpIn Fence.wide n Tryd.prog Q { a with defers := { target := .collected D, args := #[] } :: a.defers } W) :
    (Code.rangeFunc g #[p, p2] assign body).wpIn Fence.wide n Tryd.prog Q a w := by
  refine wpIn_rangeFunc fun fn hfn => ?_
  -- the loop's record and the block for deferred calls
  let R : LoopState → Option Code → Loop := fun st pe => { state := st, pending := pe, fn, tmps := a.tmps, params := #[p, p2], assign, body, defers := w.heap.size }
  let V : World := (w.alloc (.deferred (some []))).alloc (.loop (R .ready none))
  have hVl : V.heap[w.heap.size + 1]? = some (.loop (R .ready none)) := by
    have := World.alloc_heap_new (w.alloc (.deferred (some []))) (.loop (R .ready none)); rwa [World.size_alloc] at this
  have hVd : V.heap[w.heap.size]? = some (.deferred (some [])) := (Below.heap_alloc _ _ _ (by simp)).trans (World.alloc_heap_new w _)
  have hVs : V.heap.size = w.heap.size + 2 := by simp [V]
  have hVb : Below w0.heap.size w0 V := hb0.trans ((((Below.refl _ w).alloc (Nat.le_refl _) _).alloc (by simp) _).mono hb0.size)
  refine ⟨w.heap.size + 1, [{ target := .collected w.heap.size, args := #[] }], V, { target := .fn (.func gf) lb, args := #[.func (.yield (w.heap.size + 1)) #[] #[]] }, V, gf,
    #[.func (.yield (w.heap.size + 1)) #[] #[]] ++ lb, V, run_enterLoop_outer _ _ _ _ _, ?_, fun _ _ => trivial, ?_, fun _ => hn, ?_⟩
  · simp only [resolve, hg]
    simp [go_sem]
  · simp [invoke, go_sem, eg]
  refine (hH (w.heap.size + 1)
    (fun pre W => I pre W ∧ W.heap[w.heap.size + 1]? = some (.loop (R .ready none)) ∧ W.heap[w.heap.size]? = some (.deferred (some [])))
    (fun pre W => ∃ c, Ix c pre W ∧ W.heap[w.heap.size + 1]? = some (.loop (R .done (some c))) ∧ W.heap[w.heap.size]? = some (.deferred (some [])))
    V hVb
    (fun s A B hs hb => ⟨hI.below hs.1 hb, (hb.block _ (Array.getElem?_eq_some_iff.1 hs.2.1).1).trans hs.2.1, (hb.block _ (Array.getElem?_eq_some_iff.1 hs.2.2).1).trans hs.2.2⟩)
    ?_ ⟨hI.alloc _ (hI.alloc _ h0), hVl, hVd⟩).mono ?_
  · -- one round
    rintro pre x W ⟨hi, hl, hd⟩ hlen
    refine ⟨fn, _, assign, body, run_yield (P := Tryd.prog) (args := #[e1 x, e2 x]) hl rfl, roundIn_of_wpIn hfn (hassign _ pre x W _ hi ?_)⟩
    intro a' U hUk hUp hUi hUa
    have hl1 := hUk.same _ _ (by omega) hl rfl
    have hd1 := hUk.same _ _ (Nat.le_refl _) hd rfl
    have hlt := (Array.getElem?_eq_some_iff.1 hl1).1
    refine ⟨_, run_beginRound hl1 rfl, ?_⟩
    let Z : World := U.putObj (w.heap.size + 1) (.loop (R .busy none))
    have hl2 : Z.heap[w.heap.size + 1]? = some (.loop (R .busy none)) := World.putObj_heap_same hlt
    have hd2 : Z.heap[w.heap.size]? = some (.deferred (some [])) := (World.putObj_heap_other (by omega)).trans hd1
    have hZp : KpS S U Z := KpS.putObj (fun h => by have := hS _ h; omega)
    refine wpIn_mono (hbody _ pre x a' Z (by omega) (hI.putObj _ hUi (by omega) hl1 rfl) (hAx _ _ _ _ _ _ hUa (by omega) hl1 rfl) hlen) ?_
    intro e a3 W3 hp
    cases e with
    | normal =>
      obtain ⟨hk3, hp3, hi3⟩ := hp
      have hl3 := hk3.same _ _ (by omega) hl2 rfl
      have hd3 := hk3.same _ _ (Nat.le_refl _) hd2 rfl
      exact ⟨_, _, run_endRound none hl3, .inl ⟨rfl, ⟨hI.putObj _ hi3 (by omega) hl3 rfl, World.putObj_heap_same (Array.getElem?_eq_some_iff.1 hl3).1, (World.putObj_heap_other (by omega)).trans hd3⟩,
        hUp.trans (hZp.trans (hp3.trans (KpS.putObj (fun h => by have := hS _ h; omega))))⟩⟩
    | ret =>
      obtain ⟨hk3, hi3⟩ := hp
      have hl3 := hk3.same _ _ (by omega) hl2 rfl
      have hd3 := hk3.same _ _ (Nat.le_refl _) hd2 rfl
      exact ⟨_, _, run_endRound (some .ret) hl3, .inr ⟨rfl, .ret, (hIx _).putObj _ hi3 (by omega) hl3 rfl, World.putObj_heap_same (Array.getElem?_eq_some_iff.1 hl3).1, (World.putObj_heap_other (by omega)).trans hd3⟩⟩
    | exit id => exact hp.elim
    | goto t => exact hp.elim
    | panic ch => exact hp.elim
    | outgrown => exact hp.elim
  · -- behind the loop
    rintro e W2 ⟨⟨v, rfl⟩, ⟨hi, hl, hd⟩ | ⟨pre, hp, c, hi, hl, hd⟩⟩
    · exact ⟨none, _, run_endLoop (P := Tryd.prog) hl (by simp [R]), hdone _ _ (Nat.le_refl _) (hI.putObj _ hi (by omega) hl rfl) ((World.putObj_heap_other (by omega)).trans hd)⟩
    · exact ⟨some c, _, run_endLoop (P := Tryd.prog) hl (by simp [R]), hstop _ c pre _ (Nat.le_refl _) hp ((hIx c).putObj _ hi (by omega) hl rfl) ((World.putObj_heap_other (by omega)).trans hd)⟩
end Go.Proofs.YthllanndiahdjaaDoor
/- slices.Backward over a row of ints: the pairs that it hands on. -/
namespace Go.Proofs.YthllanndiahdjaaDoor
open Go.RowKit Go.Shelf
attribute [local go_sem] Oper.semAt_some

/-- The last places of so many, the last one first. -/
def ydown (n : Nat) : Nat → List Nat
  | 0 => []
  | j + 1 => ydown n j ++ [n - 1 - j]
theorem ydown_len (n j : Nat) : (ydown n j).length = j := by
  induction j with
  | zero => rfl
  | succ j ih => simp [ydown, ih]
theorem ydown_pre (n j d : Nat) : ydown n j <+: ydown n (j + d) := by
  induction d with
  | zero => exact List.prefix_refl _
  | succ d ih => rw [← Nat.add_assoc, ydown]; exact ih.trans (List.prefix_append _ _)
theorem ydown_pre' (n j m : Nat) (h : j ≤ m) : ydown n j <+: ydown n m := by
  have := ydown_pre n j (m - j)
  rwa [Nat.add_sub_cancel' h] at this
theorem ydown_is (n m : Nat) (pre : List Nat) (h : pre <+: ydown n m) : pre.length ≤ m ∧ pre = ydown n pre.length := by
  have hl := h.length_le
  rw [ydown_len] at hl
  have h2 := ydown_pre' n pre.length m hl
  exact ⟨hl, List.IsPrefix.eq_of_length (List.prefix_of_prefix_length_le h h2 (by rw [ydown_len]; exact Nat.le_refl _)) (by rw [ydown_len])⟩
theorem ydown_at (n m : Nat) (pre : List Nat) (x : Nat) (h : (pre ++ [x]) <+: ydown n m) : pre.length < m ∧ x = n - 1 - pre.length := by
  obtain ⟨h1, h2⟩ := ydown_is n m _ h
  rw [List.length_append, List.length_singleton] at h1 h2
  rw [ydown] at h2
  obtain ⟨h3, h4⟩ := List.append_inj' h2 rfl
  exact ⟨by omega, by simpa using h4⟩
theorem VR.kp {q : Nat → Value} {w w' : World} {A : Option Addr} {L : List Nat} (h : VR q w A L) (hA : ∀ a, A = some a → w'.heap[a.block]? = w.heap[a.block]?) : VR q w' A L := fun j hj => by
  obtain ⟨g, off, e, h0⟩ := h j hj
  exact ⟨g, off, e, (World.cell?_of_block (a := ⟨g, off + j, none⟩) (show w'.heap[g]? = w.heap[g]? from hA _ e)).trans h0⟩

set_option maxRecDepth 100000 in
set_option maxHeartbeats 4000000 in
theorem yback_in (N : Nat) (hN : 1 ≤ N) (l Bl : Nat) (A : Option Addr) (n c : Nat) (P : List Nat) (S : Nat → Prop) (hn : n ≤ 65536) (hP : P.length = n) (hS1 : S Bl) (hS2 : ∀ a, A = some a → S a.block) (J Jx : List Nat → World → Prop)
    (W : World) (hAb : AbV J)
    (hY : ∀ pre x W1, J pre W1 → (pre ++ [x]) <+: ydown n n → YieldAt Fence.wide (N - 1) Tryd.prog l #[vi x, vi (P.getD x 0)] W1 fun e W' =>
      (e = .returned (.bool true) ∧ J (pre ++ [x]) W' ∧ KpS S W1 W') ∨ (e = .returned (.bool false) ∧ Jx (pre ++ [x]) W'))
    (hB : Blk W Bl 58 #[.slice A n c]) (hA : VR vi W A P) (h0 : J [] W) :
    CallsIn Fence.wide N Tryd.prog 90 #[.func (.yield l) #[] #[], .pointer (some ⟨Bl, 0, none⟩)] W fun e W' => (∃ v, e = .returned v) ∧
      (J (ydown n n) W' ∨ (∃ pre, pre <+: ydown n n ∧ Jx pre W')) := by
  have HBA := Lib.hid (And.intro hB hA)
  have c0 := hB.cell 0
  have HAb := Lib.hid hAb
  have HL := Lib.hid hP
  have HP : Hid (∀ j, j ≤ n → ydown n j <+: ydown n n) := Lib.hid fun j hj => ydown_pre' n j n hj
  have HZ : Hid (J (ydown n 0) W) := Lib.hid h0
  have HSS := Lib.hid (And.intro hS1 hS2)
  have i0 : IntKind.i64.wrap ((n : Int) - 1) = (n : Int) - 1 := by rw [IntKind.wrap_i64]; omega
  clear hB hA hAb hS1 hS2 h0 hP
  refine callsIn_of_wp Tryd.func90 rfl trivial ?_ rfl
  simp only [Tryd.ntmps90, List.size_toArray, List.length_cons, List.length_nil, Nat.reduceAdd, Nat.reduceSub, Array.replicate_succ, Array.replicate_zero, List.push_toArray, List.append_toArray, List.nil_append, List.cons_append]
  gi_wp2
  clear c0 i0
  gi_loopw [3] (fun i wr => ∃ (j : Nat) (z : Int), j ≤ n ∧ z + (j : Int) + 1 = (n : Int) ∧ i = .int .i64 z ∧ Hid (J (ydown n j) wr) ∧ Hid (Blk wr Bl 58 #[.slice A n c] ∧ VR vi wr A P))
    (fun i _ => (intOf i + 1).toNat)
  case atStart => exact ⟨0, (n : Int) - 1, Nat.zero_le _, by omega, rfl, HZ, HBA⟩
  case round =>
    clear HZ HBA
    obtain ⟨j, z, hj, hz, rfl, HJ, HB⟩ := hrel
    have c1 := HB.out.1.cell 0
    by_cases hz0 : 0 ≤ z
    · obtain ⟨t, rfl⟩ : ∃ t : Nat, z = (t : Int) := ⟨z.toNat, by omega⟩
      have ht : t < n := by omega
      obtain ⟨g, off, rfl, c2⟩ := HB.out.2 t (by rw [HL.out]; exact ht)
      have HT1 : Hid (ydown n (j + 1) = ydown n j ++ [t]) := Lib.hid (by rw [ydown, show n - 1 - j = t by omega])
      have HP1 := Lib.hid (HP.out (j + 1) (by omega))
      have HP2 : Hid (ydown n j ++ [t] <+: ydown n n) := Lib.hid (HT1.out ▸ HP1.out)
      obtain ⟨fn, tmps, assign, body, hy, hR⟩ := hY (ydown n j) t wr HJ.out HP2.out
      have HR := Lib.hid hR
      clear hR HP1
      generalize P.getD t 0 = x at *
      have i1 : (t : Int) < (n : Int) := by omega
      have i2 : IntKind.i64.wrap ((t : Int) - 1) = (t : Int) - 1 := by rw [IntKind.wrap_i64]; omega
      gi_wp2
      refine HR.out.mono ?_
      rintro e2 W3 (⟨rfl, hJ3, hk3⟩ | ⟨rfl, hJx3⟩)
      · have HF : Hid (J (ydown n (j + 1)) W3) := Lib.hid (by rw [HT1.out]; exact hJ3)
        have HB3 : Hid (Blk W3 Bl 58 #[.slice (some ⟨g, off, none⟩) n c] ∧ VR vi W3 (some ⟨g, off, none⟩) P) := Lib.hid ⟨hk3.blk HSS.out.1 HB.out.1, HB.out.2.kp fun a e => hk3.2 _ (HSS.out.2 a e)⟩
        clear hJ3 hk3 c1 c2
        gi_wp2
        go_roundw
        case rel => exact ⟨j + 1, (t : Int) - 1, by omega, by omega, by simp, HF, HB3⟩
        case measure => simp [intOf]
      · gi_wp2
        refine bodyPost_ret (results_none rfl _ _ _) rfl ?_
        exact ⟨⟨_, rfl⟩, .inr ⟨_, HP2.out, hJx3⟩⟩
    · obtain rfl : j = n := by omega
      gi_wp2
      go_end0
      exact ⟨⟨_, rfl⟩, .inl HJ.out⟩

theorem yback_hands (N : Nat) (hN : 1 ≤ N) (Bl : Nat) (A : Option Addr) (n c : Nat) (P : List Nat) (S : Nat → Prop) (w : World) (hn : n ≤ 65536) (hP : P.length = n) (hS1 : S Bl) (hS2 : ∀ a, A = some a → S a.block)
    (hB : Blk w Bl 58 #[.slice A n c]) (hA : VR vi w A P) :
    HandsY vi (fun x => vi (P.getD x 0)) N 90 #[.pointer (some ⟨Bl, 0, none⟩)] S (ydown n n) w := fun l J Jx W hW hAb hY h0 =>
  yback_in N hN l Bl A n c P S hn hP hS1 hS2 J Jx W hAb hY (hB.below hW) (hA.later hW) h0

set_option maxRecDepth 100000 in
set_option maxHeartbeats 1000000 in
theorem ybackward_any (A : Option Addr) (n c : Nat) (w : World) :
    Calls Tryd.prog 73 #[.slice A n c] w fun e w' => e = .returned (.func (.func 90) #[] #[.pointer (some ⟨w.heap.size, 0, none⟩)]) ∧ w' = w.alloc (.cells #[.slice A n c] 58) := by
  go_enter Tryd.func73, Tryd.ntmps73
  go_wp2
  go_ret
  exact ⟨rfl, rfl⟩
end Go.Proofs.YthllanndiahdjaaDoor
/- The pieces that cut makes: what lies in their row. Nothing of any function. -/
namespace Go.Proofs.YthllanndiahdjaaDoor
open Go.RowKit

theorem VR.drop {q : Nat → Value} {w : World} {g off : Nat} {L : List Nat} (h : VR q w (some ⟨g, off, none⟩) L) (m : Nat) : VR q w (some ⟨g, off + m, none⟩) (L.drop m) := fun j hj => by
  rw [List.length_drop] at hj
  obtain ⟨g', off', e, h0⟩ := h (m + j) (by omega)
  obtain ⟨rfl, rfl⟩ : g = g' ∧ off = off' := by injection e with e; injection e with e1 e2; exact ⟨e1, e2⟩
  exact ⟨g, off + m, rfl, by rw [getD_drop, Nat.add_assoc]; exact h0⟩
/-- The piece of a place; what lies behind so many rounds. -/
def ypc (g off c : Nat) (P : List Nat) (n i : Nat) : Value := .slice (some ⟨g, off + P.getD i 0, none⟩) (yend P n i - P.getD i 0) (c - P.getD i 0)
def ypcs (g off c : Nat) (P : List Nat) (n m k : Nat) : List Value := (List.range m).map fun i => if m - k ≤ i then ypc g off c P n i else .slice none 0 0
theorem ypcs_len (g off c : Nat) (P : List Nat) (n m k : Nat) : (ypcs g off c P n m k).length = m := by simp [ypcs]
theorem ypcs_zero (g off c : Nat) (P : List Nat) (n m : Nat) : ypcs g off c P n m 0 = List.replicate m (.slice none 0 0) := by
  apply List.ext_getElem
  · simp [ypcs]
  · intro i h1 h2
    have : i < m := by simpa [ypcs] using h1
    simp [ypcs]
    omega
theorem ypcs_set (g off c : Nat) (P : List Nat) (n m k : Nat) (h : k < m) : (ypcs g off c P n m k).set (m - 1 - k) (ypc g off c P n (m - 1 - k)) = ypcs g off c P n m (k + 1) := by
  apply List.ext_getElem
  · simp [ypcs]
  · intro i h1 h2
    have hi : i < m := by simpa [ypcs] using h2
    rw [List.getElem_set]
    by_cases e : m - 1 - k = i
    · subst e
      rw [if_pos rfl]
      simp only [ypcs, List.getElem_map, List.getElem_range]
      rw [if_pos (by omega)]
    · rw [if_neg e]
      simp only [ypcs, List.getElem_map, List.getElem_range]
      by_cases h3 : m - k ≤ i
      · rw [if_pos h3, if_pos (by omega)]
      · rw [if_neg h3, if_neg (by omega)]
theorem ypcs_at (g off c : Nat) (P : List Nat) (n m i : Nat) (h : i < m) : (ypcs g off c P n m m)[i]? = some (ypc g off c P n i) := by
  simp [ypcs, h]
/-- Where the next piece ends, behind so many rounds. -/
def yen (P : List Nat) (n k : Nat) : Nat := if k = 0 then n else P.getD (P.length - k) 0
theorem yen_now (P : List Nat) (n k : Nat) (h : k < P.length) : yen P n k = yend P n (P.length - 1 - k) := by
  unfold yen yend
  by_cases e : k = 0
  · subst e
    rw [if_pos rfl, if_neg (by omega)]
  · rw [if_neg e, if_pos (by omega)]
    congr 1
    omega
theorem yen_next (P : List Nat) (n k : Nat) (h : k < P.length) : yen P n (k + 1) = P.getD (P.length - 1 - k) 0 := by
  unfold yen
  rw [if_neg (by omega)]
  congr 1
  omega
theorem yblk_set {W : World} {g : Nat} {t : TypeId} {xs : List Value} (h : Blk W g t xs.toArray) (i : Nat) (v : Value) : Blk (W.setCell ⟨g, i, none⟩ v) g t (xs.set i v).toArray := by
  have := h.set_ i v
  rwa [show xs.toArray.setIfInBounds i v = (xs.set i v).toArray by simp] at this
end Go.Proofs.YthllanndiahdjaaDoor
