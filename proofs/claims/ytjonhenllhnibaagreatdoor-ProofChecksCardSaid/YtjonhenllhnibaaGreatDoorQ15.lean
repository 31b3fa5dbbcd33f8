/- Texts of this seat, one behind the other: YMath, YLeaf, YJoin, YText. -/
import Derived.BigQuiet
import Derived.Deep.RegionHeld3
import Derived.Test.YtjonhenllhnibaaGreatDoorQ03
import Derived.Test.YtjonhenllhnibaaGreatDoorQ04
import Derived.Test.YtjonhenllhnibaaGreatDoorQ05
import Derived.Test.YtjonhenllhnibaaGreatDoorQ09
import Derived.Test.YtjonhenllhnibaaGreatDoorQ10
import Derived.Test.YtjonhenllhnibaaGreatDoorQ11
import Derived.Test.YtjonhenllhnibaaGreatDoorQ13
import Derived.Test.YtjonhenllhnibaaGreatDoorQ14
/- Rows of labels, in plain lists. Nothing of any function. -/
namespace Go.Proofs.YtjonhenllhnibaaGreatDoor

theorem hsum32 (s : List UInt8) : (hsumL s).length = 32 := by rw [hsumL, bytesW_len, sumN_len]
/-- What is summed for an item; an item's label, the head's, labels joined. -/
def yitem (x : ItL) : List UInt8 := [0] ++ low x.1 8 ++ (low x.2.length 2 ++ x.2)
def yleaf (x : ItL) : List UInt8 := hsumL (yitem x)
def yhead : List UInt8 := hsumL [1]
def ytext (lev : Nat) (L : List (List UInt8)) : List UInt8 := [2] ++ low lev 8 ++ L.flatten
def yjoin (lev : Nat) (L : List (List UInt8)) : List UInt8 := hsumL (ytext lev L)

/-- The places, below j, that are higher than a level. -/
def yhi (H : List Nat) (lev : Nat) (j : Nat) : List Nat := (List.range j).filter fun i => decide (lev < H.getD i 0)
theorem yhi_zero (H : List Nat) (lev : Nat) : yhi H lev 0 = [] := rfl
theorem yhi_yes {H : List Nat} {lev j : Nat} (h : lev < H.getD j 0) : yhi H lev (j + 1) = yhi H lev j ++ [j] := by
  simp only [yhi, List.range_succ, List.filter_append, List.filter_cons, List.filter_nil]
  rw [if_pos (by simpa using h)]
theorem yhi_no {H : List Nat} {lev j : Nat} (h : ¬ lev < H.getD j 0) : yhi H lev (j + 1) = yhi H lev j := by
  simp only [yhi, List.range_succ, List.filter_append, List.filter_cons, List.filter_nil]
  rw [if_neg (by simpa using h), List.append_nil]
theorem yhi_len (H : List Nat) (lev j : Nat) : (yhi H lev j).length ≤ j := by
  have := List.length_filter_le (fun i => decide (lev < H.getD i 0)) (List.range j)
  rwa [List.length_range] at this
theorem yhi_lt {H : List Nat} {lev j i : Nat} (h : i ∈ yhi H lev j) : i < j ∧ lev < H.getD i 0 := by
  simp only [yhi, List.mem_filter, List.mem_range, decide_eq_true_eq] at h
  exact h
theorem yhi_pair (H : List Nat) (lev j : Nat) : (yhi H lev j).Pairwise (· < ·) := List.Pairwise.filter _ List.pairwise_lt_range

/-- A list's pieces: from each of some places on, up to ahead of the next one. -/
def yend (P : List Nat) (n i : Nat) : Nat := if i + 1 < P.length then P.getD (i + 1) 0 else n
def ycut {α : Type} (L : List α) : List Nat → List (List α)
  | [] => []
  | p :: ps => ((L.take (ps.headD L.length)).drop p) :: ycut L ps
theorem ycut_len {α : Type} (L : List α) (P : List Nat) : (ycut L P).length = P.length := by
  induction P with
  | nil => rfl
  | cons p ps ih => simp [ycut, ih]
theorem ycut_at {α : Type} (L : List α) (P : List Nat) : ∀ i, i < P.length → (ycut L P).getD i [] = (L.take (yend P L.length i)).drop (P.getD i 0) := by
  induction P with
  | nil => intro i h; cases h
  | cons p ps ih =>
    intro i h
    cases i with
    | zero =>
      cases ps with
      | nil => simp [ycut, yend]
      | cons q qs => simp [ycut, yend, List.getD]
    | succ i =>
      have := ih i (by simpa using h)
      have e : yend (p :: ps) L.length (i + 1) = yend ps L.length i := by
        simp only [yend, List.length_cons]
        by_cases hh : i + 1 < ps.length
        · rw [if_pos (by omega), if_pos hh]; rfl
        · rw [if_neg (by omega), if_neg hh]
      rw [e]
      exact this
/-- The places rise, and end ahead of the list's end. -/
def YRise (P : List Nat) (n : Nat) : Prop := ∀ i, i < P.length → P.getD i 0 < yend P n i ∧ yend P n i ≤ n
theorem yrise_of {P : List Nat} {n : Nat} (hp : P.Pairwise (· < ·)) (hn : ∀ x ∈ P, x < n) : YRise P n := fun i hi => by
  unfold yend
  have e : P.getD i 0 = P[i] := by simp [List.getD, hi]
  by_cases h : i + 1 < P.length
  · have e2 : P.getD (i + 1) 0 = P[i + 1] := by simp [List.getD, h]
    rw [if_pos h, e, e2]
    exact ⟨List.pairwise_iff_getElem.1 hp i (i + 1) hi h (by omega), Nat.le_of_lt (hn _ (List.getElem_mem h))⟩
  · rw [if_neg h, e]
    exact ⟨hn _ (List.getElem_mem hi), Nat.le_refl _⟩
theorem yhi_rise (H : List Nat) (lev n : Nat) : YRise (yhi H lev n) n := yrise_of (yhi_pair H lev n) fun _ hx => (yhi_lt hx).1
theorem yend_pred {P : List Nat} {n i : Nat} (h : i + 1 < P.length) : yend P n i = P.getD (i + 1) 0 := by rw [yend, if_pos h]
theorem yend_last {P : List Nat} {n i : Nat} (h : ¬ i + 1 < P.length) : yend P n i = n := by rw [yend, if_neg h]
theorem ypiece_len {α : Type} (L : List α) (a b : Nat) (h : b ≤ L.length) : ((L.take b).drop a).length = b - a := by simp; omega
theorem ypiece_at (L : List Nat) (a b j : Nat) (h : a + j < b) : ((L.take b).drop a).getD j 0 = L.getD (a + j) 0 := by
  simp only [List.getD, List.getElem?_drop, List.getElem?_take]
  rw [if_pos h]

/-- Where those lie that are big, and what begins with each. -/
def ypos {α : Type} (big : α → Bool) : Nat → List α → List Nat
  | _, [] => []
  | o, x :: xs => if big x = true then o :: ypos big (o + 1) xs else ypos big (o + 1) xs
def ygrp {α : Type} (big : α → Bool) : List α → List (List α)
  | [] => []
  | x :: xs => if big x = true then (x :: xs.takeWhile (fun y => !big y)) :: ygrp big xs else ygrp big xs
theorem ypos_map {α β : Type} (h : α → β) (big : β → Bool) (A : List α) : ∀ o, ypos big o (A.map h) = ypos (fun x => big (h x)) o A := by
  induction A with
  | nil => intro o; rfl
  | cons x xs ih => intro o; simp only [List.map_cons, ypos, ih]
theorem ypos_hi (V : List Nat) (lev : Nat) : yhi V lev V.length = ypos (fun x => decide (lev < x)) 0 V := by
  suffices h : ∀ (V B : List Nat), (List.range' B.length V.length).filter (fun i => decide (lev < (B ++ V).getD i 0)) = ypos (fun x => decide (lev < x)) B.length V by
    have := h V []
    simp only [List.length_nil, List.nil_append] at this
    rw [← this, yhi, List.range_eq_range']
  intro V
  induction V with
  | nil => intro B; rfl
  | cons v V ih =>
    intro B
    have h1 := ih (B ++ [v])
    simp only [List.length_append, List.length_cons, List.length_nil, List.append_assoc, List.singleton_append, Nat.zero_add] at h1
    have e : (B ++ v :: V).getD B.length 0 = v := by simp [List.getD]
    rw [List.length_cons, List.range'_succ, List.filter_cons, h1, ypos, e]
theorem ypos_head {α : Type} (big : α → Bool) (xs : List α) : ∀ o, (ypos big o xs).headD (o + xs.length) = o + (xs.takeWhile (fun y => !big y)).length := by
  induction xs with
  | nil => intro o; rfl
  | cons x xs ih =>
    intro o
    have := ih (o + 1)
    rw [ypos, List.takeWhile_cons]
    by_cases h : big x = true
    · simp [h]
    · rw [if_neg h]
      simp only [Bool.not_eq_true] at h
      simp only [h, Bool.not_false, if_true, List.length_cons]
      rw [show o + (xs.length + 1) = o + 1 + xs.length by omega, this]
      omega
theorem ytake_while {α : Type} (p : α → Bool) (xs : List α) : xs.take (xs.takeWhile p).length = xs.takeWhile p := (List.prefix_iff_eq_take.1 (List.takeWhile_prefix p)).symm
theorem ycut_grp {α β : Type} (big : α → Bool) (f : α → β) (A : List α) : ∀ B : List α, ycut ((B ++ A).map f) (ypos big B.length A) = (ygrp big A).map (List.map f) := by
  induction A with
  | nil => intro B; rfl
  | cons x xs ih =>
    intro B
    have h1 := ih (B ++ [x])
    simp only [List.length_append, List.length_cons, List.length_nil, List.append_assoc, List.singleton_append, Nat.zero_add] at h1
    rw [ypos, ygrp]
    by_cases h : big x = true
    · rw [if_pos h, if_pos h, ycut, h1, List.map_cons]
      congr 1
      have h2 := ypos_head big xs (B.length + 1)
      have h3 : ((B ++ x :: xs).map f).length = B.length + 1 + xs.length := by simp; omega
      rw [h3, h2, List.map_append, List.map_cons]
      have h4 : B.length = (B.map f).length := by simp
      rw [h4, Nat.add_assoc, List.take_length_add_append, List.drop_left, Nat.add_comm 1, List.take_succ_cons, List.map_cons, ← List.map_take, ytake_while]
    · rw [if_neg h, if_neg h, h1]
/-- .. of a list of which those that are low were left out. -/
def ysel {α : Type} (hi lo : α → Bool) : List α → List (List α)
  | [] => []
  | x :: xs => if hi x = true then (x :: (xs.takeWhile (fun y => !hi y)).filter lo) :: ysel hi lo xs else ysel hi lo xs
theorem ywhile_filter {α : Type} {hi lo : α → Bool} (hl : ∀ x, hi x = true → lo x = true) (R : List α) : (R.filter lo).takeWhile (fun y => !hi y) = (R.takeWhile (fun y => !hi y)).filter lo := by
  induction R with
  | nil => rfl
  | cons x xs ih =>
    rw [List.filter_cons, List.takeWhile_cons]
    by_cases h : hi x = true
    · rw [if_pos (hl x h), List.takeWhile_cons]
      simp [h]
    · simp only [Bool.not_eq_true] at h
      by_cases h2 : lo x = true
      · rw [if_pos h2, List.takeWhile_cons]
        simp [h, h2, ih]
      · rw [if_neg h2]
        simp [h, h2, ih]
theorem ygrp_filter {α : Type} {hi lo : α → Bool} (hl : ∀ x, hi x = true → lo x = true) (R : List α) : ygrp hi (R.filter lo) = ysel hi lo R := by
  induction R with
  | nil => rfl
  | cons x xs ih =>
    rw [List.filter_cons, ysel]
    by_cases h : hi x = true
    · rw [if_pos (hl x h), ygrp, if_pos h, if_pos h, ih, ywhile_filter hl]
    · rw [if_neg h]
      by_cases h2 : lo x = true
      · rw [if_pos h2, ygrp, if_neg h, ih]
      · rw [if_neg h2, ih]
theorem ysel_range (hi lo : Nat → Bool) (k : Nat) : ∀ s, ysel hi lo (List.range' s k) = ((List.range' s k).filter hi).map fun q => q :: ((List.range' (q + 1) (s + k - (q + 1))).takeWhile (fun y => !hi y)).filter lo := by
  induction k with
  | zero => intro s; rfl
  | succ k ih =>
    intro s
    have h1 := ih (s + 1)
    rw [show s + 1 + k = s + (k + 1) by omega] at h1
    rw [List.range'_succ, ysel, List.filter_cons]
    by_cases h : hi s = true
    · rw [if_pos h, if_pos h, List.map_cons, h1, show s + (k + 1) - (s + 1) = k by omega]
    · rw [if_neg h, if_neg h, h1]
theorem ywhile_range (p : Nat → Bool) (j : Nat) : ∀ s k, j ≤ k → (∀ i, i < j → p (s + i) = true) → (j = k ∨ ¬ p (s + j) = true) → (List.range' s k).takeWhile p = List.range' s j := by
  induction j with
  | zero =>
    intro s k _ _ h
    rcases h with rfl | h
    · rfl
    · cases k with
      | zero => rfl
      | succ k =>
        rw [Nat.add_zero] at h
        rw [List.range'_succ, List.takeWhile_cons, if_neg h]
        rfl
  | succ j ih =>
    intro s k hk h1 h2
    cases k with
    | zero => omega
    | succ k =>
      have h3 := h1 0 (by omega)
      rw [Nat.add_zero] at h3
      rw [List.range'_succ, List.takeWhile_cons, if_pos h3, List.range'_succ, ih (s + 1) k (by omega) (fun i hi => by rw [show s + 1 + i = s + (i + 1) by omega]; exact h1 _ (by omega)) (by
        rcases h2 with h2 | h2
        · left; omega
        · right; rw [show s + 1 + j = s + (j + 1) by omega]; exact h2)]

/-- What is joined from a place on (0: the head), on the level above lev: the place, and those behind it that are higher than lev, up to the next that is higher than lev + 1. -/
def yfrom (H : List Nat) (lev q : Nat) : List Nat := q :: ((List.range' (q + 1) (H.length - (q + 1))).takeWhile (fun i => !decide (lev + 1 < H.getD i 0))).filter fun i => decide (lev < H.getD i 0)
theorem yfrom_is (H : List Nat) (lev q j : Nat) (hj : q + 1 + j ≤ H.length) (h1 : ∀ i, i < j → ¬ lev + 1 < H.getD (q + 1 + i) 0) (h2 : q + 1 + j = H.length ∨ lev + 1 < H.getD (q + 1 + j) 0) :
    yfrom H lev q = q :: (List.range' (q + 1) j).filter fun i => decide (lev < H.getD i 0) := by
  rw [yfrom, ywhile_range _ j (q + 1) _ (by omega) (fun i hi => by simp only [Bool.not_eq_true', decide_eq_false_iff_not]; exact h1 i hi) (by
    rcases h2 with h2 | h2
    · left; omega
    · right
      simp only [Bool.not_eq_true', decide_eq_false_iff_not]
      exact fun h => h h2)]
/-- The label of a place, on a level. -/
def ylab (base : Nat → List UInt8) (H : List Nat) : Nat → Nat → List UInt8
  | 0, q => base q
  | lev + 1, q => yjoin (lev + 1) ((yfrom H lev q).map (ylab base H lev))
/-- A level's row; and how high its labels stand. -/
def yrow (base : Nat → List UInt8) (H : List Nat) (lev : Nat) : List (List UInt8) := (yhi H lev H.length).map (ylab base H lev)
def yhts (H : List Nat) (lev : Nat) : List Nat := (yhi H lev H.length).map fun q => H.getD q 0
theorem yrow_len (base : Nat → List UInt8) (H : List Nat) (lev : Nat) : (yrow base H lev).length = (yhi H lev H.length).length := List.length_map _
theorem yhts_len (H : List Nat) (lev : Nat) : (yhts H lev).length = (yhi H lev H.length).length := List.length_map _
/-- The places to cut at. -/
theorem ycut_step {β : Type} (H : List Nat) (lev : Nat) (f : Nat → β) : ycut ((yhi H lev H.length).map f) (yhi (yhts H lev) (lev + 1) (yhts H lev).length) = (yhi H (lev + 1) H.length).map fun q => (yfrom H lev q).map f := by
  rw [ypos_hi (yhts H lev), yhts, ypos_map]
  have h1 := ycut_grp (fun q => decide (lev + 1 < H.getD q 0)) f (yhi H lev H.length) []
  simp only [List.nil_append, List.length_nil] at h1
  rw [h1]
  unfold yhi
  rw [ygrp_filter (fun x hx => by simp only [decide_eq_true_eq] at hx ⊢; omega), List.range_eq_range', ysel_range, List.map_map]
  simp only [Nat.zero_add]
  rfl
theorem yrow_step (base : Nat → List UInt8) (H : List Nat) (lev : Nat) : (ycut (yrow base H lev) (yhi (yhts H lev) (lev + 1) (yhts H lev).length)).map (yjoin (lev + 1)) = yrow base H (lev + 1) := by
  rw [yrow, ycut_step, List.map_map]
  rfl
theorem yhts_step (H : List Nat) (lev : Nat) : (ycut (yhts H lev) (yhi (yhts H lev) (lev + 1) (yhts H lev).length)).map (fun g => g.getD 0 0) = yhts H (lev + 1) := by
  have h := ycut_step H lev (fun q => H.getD q 0)
  rw [show (yhi H lev H.length).map (fun q => H.getD q 0) = yhts H lev from rfl] at h
  rw [h, List.map_map]
  rfl
/-- Rows get no longer. -/
theorem yrow_less (base : Nat → List UInt8) (H : List Nat) (lev : Nat) : (yrow base H (lev + 1)).length ≤ (yrow base H lev).length := by
  rw [yrow_len, yrow_len]
  have e : yhi H (lev + 1) H.length = (yhi H lev H.length).filter fun i => decide (lev + 1 < H.getD i 0) := by
    unfold yhi
    rw [List.filter_filter]
    congr 1
    funext i
    rw [← Bool.decide_and]
    congr 1
    apply propext
    omega
  rw [e]
  exact List.length_filter_le _ _
theorem yrow_le (base : Nat → List UInt8) (H : List Nat) (lev : Nat) : (yrow base H lev).length ≤ H.length := by
  rw [yrow_len]
  exact yhi_len _ _ _

/-- The labels of a list's places, and their heights. -/
def ybase (Z : List ItL) (q : Nat) : List UInt8 := if q = 0 then yhead else yleaf (Z.getD (q - 1) (0, []))
def yht (k : List UInt8) (Z : List ItL) : List Nat := 9 :: hsL k (ikeys Z)
theorem yht_len (k : List UInt8) (Z : List ItL) : (yht k Z).length = Z.length + 1 := by simp [yht, hsL_len, ikeys_len]
theorem yht_zero (k : List UInt8) (Z : List ItL) : (yht k Z).getD 0 0 = 9 := rfl
theorem yht_at (k : List UInt8) (Z : List ItL) (j : Nat) : (yht k Z).getD (j + 1) 0 = (hsL k (ikeys Z)).getD j 0 := rfl
theorem yht_one (k : List UInt8) (Z : List ItL) (j : Nat) (h : j < Z.length) : 1 ≤ (yht k Z).getD (j + 1) 0 ∧ (yht k Z).getD (j + 1) 0 ≤ 8 := by
  rw [yht_at, hsL_at _ _ _ (by rw [ikeys_len]; exact h)]
  exact hL_le _ _
theorem yhi_all (k : List UInt8) (Z : List ItL) (j : Nat) (h : j ≤ Z.length + 1) : yhi (yht k Z) 0 j = List.range j := by
  unfold yhi
  rw [List.filter_eq_self]
  intro i hi
  rw [List.mem_range] at hi
  simp only [decide_eq_true_eq]
  cases i with
  | zero => rw [yht_zero]; omega
  | succ i => have := (yht_one k Z i (by omega)).1; omega
theorem ymap_getD {α : Type} (L : List α) (d : α) : (List.range L.length).map (fun q => L.getD q d) = L := by
  apply List.ext_getElem
  · simp
  · intro i h1 h2
    simp [List.getD, h2]
theorem yhts_zero (k : List UInt8) (Z : List ItL) : yhts (yht k Z) 0 = yht k Z := by
  rw [yhts, yhi_all _ _ _ (by rw [yht_len]; exact Nat.le_refl _)]
  exact ymap_getD _ _
theorem yrow_zero (k : List UInt8) (Z : List ItL) : yrow (ybase Z) (yht k Z) 0 = yhead :: Z.map yleaf := by
  rw [yrow, yhi_all _ _ _ (by rw [yht_len]; exact Nat.le_refl _), yht_len, List.range_succ_eq_map, List.map_cons, List.map_map]
  congr 1
  show (List.range Z.length).map (yleaf ∘ fun q => Z.getD q (0, [])) = _
  rw [← List.map_map, ymap_getD]
/-- The row of a list of a level, and its label. -/
def yrowL (k : List UInt8) (Z : List ItL) (lev : Nat) : List (List UInt8) := yrow (ybase Z) (yht k Z) lev
def yroot (k : List UInt8) (Z : List ItL) : List UInt8 := ylab (ybase Z) (yht k Z) 8 0
theorem yhi_head (k : List UInt8) (Z : List ItL) (lev : Nat) (h : lev ≤ 8) : yhi (yht k Z) lev 1 = [0] := by
  rw [yhi_yes (by rw [yht_zero]; omega), yhi_zero, List.nil_append]
theorem yhi_last (k : List UInt8) (Z : List ItL) : ∀ j, j ≤ Z.length → yhi (yht k Z) 8 (j + 1) = [0] := by
  intro j
  induction j with
  | zero => intro _; exact yhi_head k Z 8 (by omega)
  | succ j ih =>
    intro h
    rw [yhi_no (by have := (yht_one k Z j (by omega)).2; omega), ih (by omega)]
theorem yrow_last (k : List UInt8) (Z : List ItL) : yrowL k Z 8 = [yroot k Z] := by
  rw [yrowL, yrow, yht_len, yhi_last k Z Z.length (Nat.le_refl _)]
  rfl
theorem yhi_pos (k : List UInt8) (Z : List ItL) (lev : Nat) (h : lev ≤ 8) : ∀ j, 1 ≤ (yhi (yht k Z) lev (j + 1)).length := by
  intro j
  induction j with
  | zero => rw [yhi_head k Z lev h]; exact Nat.le_refl _
  | succ j ih =>
    by_cases hh : lev < (yht k Z).getD (j + 1) 0
    · rw [yhi_yes hh]; simp
    · rw [yhi_no hh]; exact ih
theorem yrowL_pos (k : List UInt8) (Z : List ItL) (lev : Nat) (h : lev ≤ 8) : 1 ≤ (yrowL k Z lev).length := by
  rw [yrowL, yrow_len, yht_len]
  exact yhi_pos k Z lev h _
theorem yrowL_le (k : List UInt8) (Z : List ItL) (lev : Nat) : (yrowL k Z lev).length ≤ Z.length + 1 := by
  have := yrow_le (ybase Z) (yht k Z) lev
  rwa [yht_len] at this
theorem ylab_len (k : List UInt8) (Z : List ItL) (lev q : Nat) : (ylab (ybase Z) (yht k Z) lev q).length = 32 := by
  cases lev with
  | zero =>
    show (ybase Z q).length = 32
    unfold ybase
    split
    · exact hsum32 _
    · exact hsum32 _
  | succ lev => exact hsum32 _
theorem yrowL_32 (k : List UInt8) (Z : List ItL) (lev : Nat) : ∀ x ∈ yrowL k Z lev, x.length = 32 := by
  intro x hx
  simp only [yrowL, yrow, List.mem_map] at hx
  obtain ⟨q, _, rfl⟩ := hx
  exact ylab_len _ _ _ _
end Go.Proofs.YtjonhenllhnibaaGreatDoor
/- The contracts of leaf and Leaf; of the reference's Item and Leaf. -/
namespace Go.Proofs.YtjonhenllhnibaaGreatDoor
open Go.RowKit

theorem yitem_len (x : ItL) : (yitem x).length = 11 + x.2.length := by
  simp [yitem, low_length]; omega

set_option maxRecDepth 100000 in
set_option maxHeartbeats 1000000 in
theorem ylf_any (k : Nat) (s : List UInt8) (w : World) (hs : s.length ≤ 64) (hk : k < 18446744073709551616) :
    Calls Tryz.prog 79 #[.agg #[.int .u64 (k : Int), sv s]] w fun e w' => e = .returned (.string ⟨(yleaf (k, s)).toArray⟩) ∧ Below w.heap.size w w' := by
  have hb0 := ba (Below.refl w.heap.size w) (.cells #[.int .u64 (k : Int), sv s] 42)
  have HK := Lib.hid (Blk.new w 42 #[.int .u64 (k : Int), sv s])
  have T1 := Lib.hid (text_ok s (w.alloc (.cells #[.int .u64 (k : Int), sv s] 42)) (by omega))
  have T2 := Lib.hid (fun W => number_any k W (by omega))
  have e : enc (true, 0, s) = low s.length 2 ++ s := by rw [enc, if_pos rfl]
  rw [e] at T1
  have T3 := Lib.hid (fun W => sum_any (yitem (k, s)) W (by rw [yitem_len]; simp only; omega))
  have l1 : (low k 8).length = 8 := low_length _ _
  have l2 : (low s.length 2 ++ s).length ≤ 70 := by rw [List.length_append, low_length]; omega
  have HY : Hid (yitem (k, s) = [0] ++ low k 8 ++ (low s.length 2 ++ s)) := Lib.hid rfl
  have HZ : Hid (yleaf (k, s) = hsumL (yitem (k, s))) := Lib.hid rfl
  rw [HZ.out]
  rw [HY.out] at T3 ⊢
  clear HY HZ e hs hk
  generalize low k 8 = a at *
  generalize low s.length 2 ++ s = b at *
  have a1 : ∀ W : World, (Op.stringOp .add ⟨[(0 : UInt8)].toArray⟩ ⟨a.toArray⟩).run Tryz.prog W = .ok (.string ⟨([0] ++ a).toArray⟩) W := fun W => run_string_add_lists (P := Tryz.prog) W [0] a (by simp) (by omega)
  have a2 : ∀ W : World, (Op.stringOp .add ⟨([0] ++ a).toArray⟩ ⟨b.toArray⟩).run Tryz.prog W = .ok (.string ⟨([0] ++ a ++ b).toArray⟩) W := fun W => run_string_add_lists (P := Tryz.prog) W ([0] ++ a) b (by simp; omega) (by omega)
  generalize hsumL ([0] ++ a ++ b) = h at *
  generalize [0] ++ a ++ b = c at *
  generalize [0] ++ a = d at *
  clear l1 l2
  have d1 := HK.out.cell 1
  go_enter Tryz.func79, Tryz.ntmps79
  go_wp2_with fail
  refine T1.out.mono ?_
  rintro e w1 ⟨rfl, hb1⟩
  have d0 := (HK.out.below hb1).cell 0
  have hb2 := bt hb0 hb1
  go_wp2_with fail
  refine (T2.out _).mono ?_
  rintro e w2 ⟨rfl, hb3⟩
  go_wp2_with fail
  refine (T3.out _).mono ?_
  rintro e w3 ⟨rfl, hb4⟩
  have hb5 := bt hb2 (bt hb3 hb4)
  go_wp2
  go_ret
  exact ⟨rfl, hb5⟩

end Go.Proofs.YtjonhenllhnibaaGreatDoor
/- The contracts of joined and Join; slices.IndexFunc, ContainsFunc over isNoLabel. -/
namespace Go.Proofs.YtjonhenllhnibaaGreatDoor
open Go.RowKit

theorem yjoin_none (L : List (List UInt8)) : Lib.join L [] = L.flatten := by
  cases L with
  | nil => rfl
  | cons x r =>
    rw [Lib.join_cons, List.flatten_cons]
    congr 1
    simp [Lib.joinTail]
theorem ytext_len (lev : Nat) (L : List (List UInt8)) : (ytext lev L).length = 9 + L.flatten.length := by
  simp only [ytext, List.length_append, low_length, List.length_cons, List.length_nil]

set_option maxRecDepth 100000 in
set_option maxHeartbeats 1000000 in
theorem yjn_any (lev : Nat) (A : Option Addr) (n c : Nat) (L : List (List UInt8)) (w : World) (hlev : lev ≤ 8) (hA : SR w A L) (hl : L.length = n) (h1 : 1 ≤ n) (hn : n ≤ 4096) (hc : n ≤ c) (hf : L.flatten.length ≤ 60000) :
    Calls Tryz.prog 82 #[.int .i64 (lev : Int), .slice A n c] w fun e w' => e = .returned (.string ⟨(yjoin lev L).toArray⟩) ∧ Below w.heap.size w w' := by
  obtain ⟨g, off, rfl, hc0⟩ := hA 0 (by omega)
  have hg := World.block_lt_of_cell? _ _ hc0
  have hcells : ∀ W, Below w.heap.size w W → ∀ (j : Nat) x, (L.map fun l => (⟨l.toArray⟩ : ByteArray))[j]? = some x → W.cell? ⟨g, off + j, none⟩ = some (.string x) := fun W hb j x hx => by
    rw [List.getElem?_map, Option.map_eq_some_iff] at hx
    obtain ⟨y, hy, rfl⟩ := hx
    have hj := (List.getElem?_eq_some_iff.1 hy).1
    obtain ⟨g', off', e, h2⟩ := (hA.later hb) j hj
    injection e with e
    injection e with e1 e2
    subst e1 e2
    rw [h2]
    simp [List.getD, hy]
  have hj : Lib.join ((L.map fun l => (⟨l.toArray⟩ : ByteArray)).map fun x : ByteArray => x.data.toList) [] = L.flatten := by
    rw [List.map_map, show ((fun x : ByteArray => x.data.toList) ∘ fun l : List UInt8 => (⟨l.toArray⟩ : ByteArray)) = id from rfl, List.map_id, yjoin_none]
  have HJ := Lib.hid (fun W (hb : Below w.heap.size w W) => by
    have := Any.strings_Join joinLays156 joinLaysExtra g off c (L.map fun l => (⟨l.toArray⟩ : ByteArray)) ⟨#[]⟩ W (hcells W hb) (Nat.lt_of_lt_of_le hg hb.size) (by rw [List.length_map]; omega) (by rw [List.length_map]; omega) (by rw [hj]; omega)
    rw [hj, List.length_map, hl] at this
    exact this)
  have T2 := Lib.hid (number_any lev w (by omega))
  have T3 := Lib.hid (fun W => sum_any (ytext lev L) W (by rw [ytext_len]; omega))
  have l1 : (low lev 8).length = 8 := low_length _ _
  have HY : Hid (ytext lev L = [2] ++ low lev 8 ++ L.flatten) := Lib.hid rfl
  have HZ : Hid (yjoin lev L = hsumL (ytext lev L)) := Lib.hid rfl
  rw [HZ.out]
  rw [HY.out] at T3 ⊢
  clear HY HZ hcells hj hA hc0
  generalize low lev 8 = a at *
  generalize L.flatten = b at *
  have a1 : ∀ W : World, (Op.stringOp .add ⟨[(2 : UInt8)].toArray⟩ ⟨a.toArray⟩).run Tryz.prog W = .ok (.string ⟨([2] ++ a).toArray⟩) W := fun W => run_string_add_lists (P := Tryz.prog) W [2] a (by simp) (by omega)
  have a2 : ∀ W : World, (Op.stringOp .add ⟨([2] ++ a).toArray⟩ ⟨b.toArray⟩).run Tryz.prog W = .ok (.string ⟨([2] ++ a ++ b).toArray⟩) W := fun W => run_string_add_lists (P := Tryz.prog) W ([2] ++ a) b (by simp; omega) (by omega)
  generalize hsumL ([2] ++ a ++ b) = h at *
  generalize [2] ++ a ++ b = c at *
  generalize [2] ++ a = d at *
  have hwz : IntKind.u64.wrap (lev : Int) = (lev : Int) := by rw [IntKind.wrap_u64]; omega
  clear l1 hf
  go_enter Tryz.func82, Tryz.ntmps82
  go_wp2_with fail
  refine T2.out.mono ?_
  rintro e w1 ⟨rfl, hb1⟩
  go_wp2_with fail
  refine (HJ.out _ hb1).mono ?_
  rintro e w2 ⟨rfl, hb2⟩
  have hb3 := bt hb1 hb2
  go_wp2_with fail
  refine (T3.out _).mono ?_
  rintro e w3 ⟨rfl, hb4⟩
  have hb5 := bt hb3 hb4
  go_wp2
  go_ret
  exact ⟨rfl, hb5⟩

/-- Some label is none. -/
def YNo (L : List (List UInt8)) : Prop := ∃ j, j < L.length ∧ (L.getD j []).length ≠ 32
end Go.Proofs.YtjonhenllhnibaaGreatDoor
/- The contracts of the reference's Item, Leaf, Text and Labels. -/
namespace Go.Proofs.YtjonhenllhnibaaGreatDoor
open Go.RowKit

/-- A byte made a text. -/
theorem yone_at (b : UInt8) (g : Nat) (W : World) (h : W.cell? ⟨g, 0, none⟩ = some (cbv b)) : (convert 90 9 (.slice (some ⟨g, 0, none⟩) 1 1)).run Tryz.prog W = .ok (.string ⟨[b].toArray⟩) W :=
  run_convert_bytes_back (P := Tryz.prog) W 90 9 5 ⟨g, 0, none⟩ 1 [b] Tryz.underlying90 Tryz.underlying5 Tryz.underlying9 (fun j hj => by
    obtain rfl : j = 0 := by simpa using hj
    simpa [Addr.add] using h)
theorem yone_new (b : UInt8) (W : World) : (convert 90 9 (.slice (some ⟨W.heap.size, 0, none⟩) 1 1)).run Tryz.prog (W.alloc (.cells #[cbv b] 5)) = .ok (.string ⟨[b].toArray⟩) (W.alloc (.cells #[cbv b] 5)) := yone_at b _ _ ((Blk.new W _ _).cell 0)
theorem yone_drew (b : UInt8) (W : World) : (convert 90 9 (.slice (some ⟨W.heap.size, 0, none⟩) 1 1)).run Tryz.prog (W.alloc (.cells #[cbv b] 5)).drew = .ok (.string ⟨[b].toArray⟩) (W.alloc (.cells #[cbv b] 5)).drew := yone_at b _ _ ((Blk.new W _ _).cell 0)
theorem yone_later (b : UInt8) (W W1 : World) (h : Below (W.alloc (.cells #[cbv b] 5)).drew.heap.size (W.alloc (.cells #[cbv b] 5)).drew W1) : (convert 90 9 (.slice (some ⟨W.heap.size, 0, none⟩) 1 1)).run Tryz.prog W1 = .ok (.string ⟨[b].toArray⟩) W1 :=
  yone_at b _ _ (((show Blk (W.alloc (.cells #[cbv b] 5)).drew W.heap.size 5 #[cbv b] from Blk.new W _ _).below h).cell 0)

set_option maxRecDepth 100000 in
set_option maxHeartbeats 1000000 in
theorem yrtext_any (lev : Nat) (A : Option Addr) (n c : Nat) (L : List (List UInt8)) (w : World) (hlev : lev ≤ 8) (hA : SR w A L) (hl : L.length = n) (hn : n ≤ 4096) (hf : L.flatten.length ≤ 60000) :
    Calls Tryz.prog 47 #[.int .i64 (lev : Int), .slice A n c] w fun e w' => e = .returned (.string ⟨(ytext lev L).toArray⟩) ∧ Below w.heap.size w w' := by
  have HR := Lib.hid (fun j W (hj : j < n) (hb : Below w.heap.size w W) => (hA.later hb) j (by omega))
  have T1 := Lib.hid (fun W => show Calls Tryz.prog 72 #[.int .u64 (lev : Int), .int .i64 8] W fun e w' => e = .returned (.string ⟨(low lev 8).toArray⟩) ∧ Below W.heap.size W w' from rlow_any lev 8 W (by omega) (by omega))
  have l1 : (low lev 8).length = 8 := low_length _ _
  have hcv : ∀ W : World, (convert 90 9 (.slice (some ⟨W.heap.size, 0, none⟩) 1 1)).run Tryz.prog (W.alloc (.cells #[.int .u8 2] 5)) = .ok (.string ⟨[2].toArray⟩) (W.alloc (.cells #[.int .u8 2] 5)) := fun W => yone_new 2 W
  have hcd : ∀ W : World, (convert 90 9 (.slice (some ⟨W.heap.size, 0, none⟩) 1 1)).run Tryz.prog (W.alloc (.cells #[.int .u8 2] 5)).drew = .ok (.string ⟨[2].toArray⟩) (W.alloc (.cells #[.int .u8 2] 5)).drew := fun W => yone_drew 2 W
  have hwz : IntKind.u64.wrap (lev : Int) = (lev : Int) := by rw [IntKind.wrap_u64]; omega
  have HALL : Hid (∀ s, ytext lev (L.take n) = s → ytext lev L = s) := Lib.hid fun s h => by rw [← hl, List.take_length] at h; exact h
  have HST : Hid (∀ j, j < n → ytext lev (L.take (j + 1)) = ytext lev (L.take j) ++ L.getD j []) := Lib.hid fun j hj => by
    have hj2 : j < L.length := by omega
    have e : L.take (j + 1) = L.take j ++ [L.getD j []] := by rw [List.take_add_one]; simp [List.getD, hj2]
    rw [e]
    simp [ytext]
  have HLE : Hid (∀ j, (ytext lev (L.take j)).length ≤ 60009) := Lib.hid fun j => by
    rw [ytext_len]
    have : (L.take j).flatten.length ≤ L.flatten.length := by
      conv => rhs; rw [← List.take_append_drop j L]
      rw [List.flatten_append, List.length_append]
      omega
    omega
  have H0 : Hid (ytext lev (L.take 0) = [2] ++ low lev 8) := Lib.hid (by simp [ytext])
  clear hA hl hf
  generalize low lev 8 = a at *
  have a1 : ∀ W : World, (Op.stringOp .add ⟨[(2 : UInt8)].toArray⟩ ⟨a.toArray⟩).run Tryz.prog W = .ok (.string ⟨([2] ++ a).toArray⟩) W := fun W => run_string_add_lists (P := Tryz.prog) W [2] a (by simp) (by omega)
  generalize [2] ++ a = d at *
  go_enter Tryz.func47, Tryz.ntmps47
  go_wp2_with fail
  go_cut [5] from 8 to 14 (fun s5 wx => s5 = .string ⟨d.toArray⟩ ∧ Below w.heap.size w wx)
  case first =>
    go_region_with (first | (go_at_call 72; refine (T1.out _).mono ?_; rintro e w1 ⟨rfl, hb1⟩; try have hc1 := yone_later 2 _ _ hb1))
    all_goals (try clear hc1)
    all_goals go_wp2_with fail
    all_goals go_meet
    all_goals first
      | exact ⟨rfl, bt (ba (Below.refl _ _) _).drew hb1⟩
      | exact ⟨rfl, ba (bt (Below.refl _ _).drew hb1) _⟩
  case rest =>
    obtain ⟨rfl, HB0⟩ := hcut
    clear hcv hcd a1 l1
    go_wp2_with fail
    go_loopw [5, 16] (fun ov iv wr => ∃ (j : Nat) (T : List UInt8), j ≤ n ∧ iv = .int .i64 (j : Int) ∧ ov = .string ⟨T.toArray⟩ ∧ Hid (ytext lev (L.take j) = T) ∧ Hid (Below w.heap.size w wr)) (fun _ i _ => n - (intOf i).toNat)
    case atStart => exact ⟨0, d, Nat.zero_le _, rfl, rfl, H0, Lib.hid HB0⟩
    case round =>
      clear HB0 H0
      obtain ⟨j, T, hj, rfl, rfl, HT, HB⟩ := hrel
      by_cases hlt : j < n
      · obtain ⟨g, off, rfl, c0⟩ := HR.out j wr hlt HB.out
        have HT2 := HST.out j hlt
        have hle := HLE.out (j + 1)
        rw [HT2, HT.out, List.length_append] at hle
        rw [HT.out] at HT2
        have HT2 := Lib.hid HT2
        generalize L.getD j [] = x at c0 HT2 hle
        have a2 : ∀ W : World, (Op.stringOp .add ⟨T.toArray⟩ ⟨x.toArray⟩).run Tryz.prog W = .ok (.string ⟨(T ++ x).toArray⟩) W := fun W => run_string_add_lists (P := Tryz.prog) W T x (by omega) (by omega)
        have i0 : (0 : Int) ≤ (j : Int) := by omega
        have i1 : (j : Int) < (n : Int) := by omega
        go_wp2_with fail
        exact ⟨⟨j + 1, _, by omega, by go_num, rfl, HT2, HB⟩, by simp [intOf]; omega⟩
      · obtain rfl : j = n := by omega
        have HA2 := Lib.hid (HALL.out T HT.out)
        go_wp2
        go_ret
        exact ⟨by rw [HA2.out]; rfl, HB.out⟩

set_option maxRecDepth 100000 in
set_option maxHeartbeats 1000000 in
theorem ylabels_any (A : Option Addr) (n c : Nat) (L : List (List UInt8)) (w : World) (hA : SR w A L) (hl : L.length = n) (hn : n ≤ 65536) :
    Calls Tryz.prog 71 #[.slice A n c] w fun e w' => ∃ b : Bool, e = .returned (.bool b) ∧ (b = false ↔ YNo L) ∧ w = w' := by
  have HR := Lib.hid (fun j (hj : j < n) => hA j (by omega))
  have HL := Lib.hid hl
  clear hA hl
  go_enter Tryz.func71, Tryz.ntmps71
  go_wp2_with fail
  go_loopw [7] (fun iv wr => ∃ j : Nat, j ≤ n ∧ iv = .int .i64 (j : Int) ∧ wr = w ∧ Hid (∀ t, t < j → (L.getD t []).length = 32)) (fun i _ => n - (intOf i).toNat)
  case atStart => exact ⟨0, Nat.zero_le _, rfl, rfl, Lib.hid fun t ht => absurd ht (Nat.not_lt_zero _)⟩
  case round =>
    obtain ⟨j, hj, rfl, rfl, HA⟩ := hrel
    by_cases hlt : j < n
    · obtain ⟨g, off, rfl, c0⟩ := HR.out j hlt
      have HAJ : Hid ((L.getD j []).length = 32 → ∀ t, t < j + 1 → (L.getD t []).length = 32) := Lib.hid fun h t ht => by
        rcases Nat.lt_or_ge t j with h2 | h2
        · exact HA.out t h2
        · obtain rfl : t = j := by omega
          exact h
      have HX : Hid ((L.getD j []).length ≠ 32 → YNo L) := Lib.hid fun h => ⟨j, by rw [HL.out]; exact hlt, h⟩
      generalize L.getD j [] = x at c0 HAJ HX
      have hz := isize x
      have i0 : (0 : Int) ≤ (j : Int) := by omega
      have i1 : (j : Int) < (n : Int) := by omega
      by_cases hx : x.length = 32
      · have e : ((x.length : Int) != 32) = false := by simp; omega
        have HA2 := Lib.hid (HAJ.out hx)
        clear hx HX HAJ
        go_wp2_with fail
        exact ⟨⟨j + 1, by omega, by go_num, by trivial, HA2⟩, by simp [intOf]; omega⟩
      · have e : ((x.length : Int) != 32) = true := by simp; omega
        have HX2 := Lib.hid (HX.out hx)
        clear hx HX HAJ
        go_wp2
        go_ret
        exact ⟨false, rfl, ⟨fun _ => HX2.out, fun _ => rfl⟩, rfl⟩
    · obtain rfl : j = n := by omega
      have HE : Hid (¬ YNo L) := Lib.hid fun ⟨t, h1, h2⟩ => h2 (HA.out t (by rw [← HL.out]; exact h1))
      go_wp2
      go_ret
      exact ⟨true, rfl, ⟨fun h => (by cases h), fun h => absurd h HE.out⟩, rfl⟩
end Go.Proofs.YtjonhenllhnibaaGreatDoor
