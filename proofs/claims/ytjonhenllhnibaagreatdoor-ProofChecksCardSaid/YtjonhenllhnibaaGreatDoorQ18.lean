/- Texts of this seat, one behind the other: PMath, PBind, PRow, PMade. -/
import Derived.Test.YtjonhenllhnibaaGreatDoorQ02
import Derived.Test.YtjonhenllhnibaaGreatDoorQ04
import Derived.Test.YtjonhenllhnibaaGreatDoorQ14
import Derived.Test.YtjonhenllhnibaaGreatDoorQ16
import Derived.Test.YtjonhenllhnibaaGreatDoorQ17
/- The places that are joined with an item's own, level by level, in plain lists. Nothing of any function. -/
namespace Go.Proofs.YtjonhenllhnibaaGreatDoor

/-- A list that rises, parted at one of its own. -/
theorem pf_parts {L X Y : List Nat} {x : Nat} (h : L.Pairwise (· < ·)) (e : L = X ++ x :: Y) : L.filter (fun i => decide (i < x)) = X ∧ L.filter (fun i => decide (x < i)) = Y := by
  subst e
  rw [List.pairwise_append] at h
  obtain ⟨_, h2, h3⟩ := h
  rw [List.pairwise_cons] at h2
  constructor
  · rw [List.filter_append, List.filter_cons, if_neg (by simp), List.filter_eq_self.2 (fun i hi => by simpa using h3 i hi x (by simp)), List.filter_eq_nil_iff.2 (fun i hi => by simpa using Nat.le_of_lt (h2.1 i hi)), List.append_nil]
  · rw [List.filter_append, List.filter_cons, if_neg (by simp), List.filter_eq_nil_iff.2 (fun i hi => by simpa using Nat.le_of_lt (h3 i hi x (by simp))), List.filter_eq_self.2 (fun i hi => by simpa using h2.1 i hi), List.nil_append]
theorem pf_split {L : List Nat} {x : Nat} (h : L.Pairwise (· < ·)) (hx : x ∈ L) : L = L.filter (fun i => decide (i < x)) ++ x :: L.filter (fun i => decide (x < i)) := by
  obtain ⟨X, Y, e⟩ := List.append_of_mem hx
  obtain ⟨h1, h2⟩ := pf_parts h e
  rw [h1, h2]
  exact e

/-- The last place, up to one, that is higher than a level. -/
def pown (H : List Nat) (lev : Nat) : Nat → Nat
  | 0 => 0
  | q + 1 => if lev < H.getD (q + 1) 0 then q + 1 else pown H lev q
theorem pown_yes {H : List Nat} {lev q : Nat} (h : lev < H.getD (q + 1) 0) : pown H lev (q + 1) = q + 1 := if_pos h
theorem pown_no {H : List Nat} {lev q : Nat} (h : ¬ lev < H.getD (q + 1) 0) : pown H lev (q + 1) = pown H lev q := if_neg h
theorem pown_le (H : List Nat) (lev q : Nat) : pown H lev q ≤ q := by
  induction q with
  | zero => exact Nat.le_refl _
  | succ q ih =>
    by_cases h : lev < H.getD (q + 1) 0
    · rw [pown_yes h]; exact Nat.le_refl _
    · rw [pown_no h]; omega
theorem pown_hi {H : List Nat} {lev : Nat} (h0 : lev < H.getD 0 0) (q : Nat) : lev < H.getD (pown H lev q) 0 := by
  induction q with
  | zero => exact h0
  | succ q ih =>
    by_cases h : lev < H.getD (q + 1) 0
    · rw [pown_yes h]; exact h
    · rw [pown_no h]; exact ih
theorem pown_gap {H : List Nat} {lev q i : Nat} (h1 : pown H lev q < i) (h2 : i ≤ q) : ¬ lev < H.getD i 0 := by
  induction q with
  | zero => omega
  | succ q ih =>
    by_cases h : lev < H.getD (q + 1) 0
    · rw [pown_yes h] at h1; omega
    · rw [pown_no h] at h1
      by_cases e : i = q + 1
      · rw [e]; exact h
      · exact ih h1 (by omega)
theorem pown_is {H : List Nat} {lev q p : Nat} (h1 : p ≤ q) (h2 : lev < H.getD p 0) (h3 : ∀ i, p < i → i ≤ q → ¬ lev < H.getD i 0) : pown H lev q = p := by
  induction q with
  | zero => simp only [pown]; omega
  | succ q ih =>
    by_cases e : p = q + 1
    · rw [e] at h2 ⊢; exact pown_yes h2
    · rw [pown_no (h3 (q + 1) (by omega) (Nat.le_refl _))]
      exact ih (by omega) fun i hi hq => h3 i hi (by omega)
theorem pown_up {H : List Nat} {lev q : Nat} (h0 : lev + 1 < H.getD 0 0) : pown H (lev + 1) q ≤ pown H lev q := by
  have h1 := pown_hi h0 q
  have h2 := pown_le H (lev + 1) q
  by_cases h : pown H (lev + 1) q ≤ pown H lev q
  · exact h
  · exact absurd (by omega) (pown_gap (lev := lev) (H := H) (q := q) (i := pown H (lev + 1) q) (by omega) h2)
/-- The next place, behind one, that is higher. -/
theorem pend_ex (H : List Nat) (lev q : Nat) (hq : q < H.length) : ∃ j, q + 1 + j ≤ H.length ∧ (∀ i, i < j → ¬ lev < H.getD (q + 1 + i) 0) ∧ (q + 1 + j = H.length ∨ lev < H.getD (q + 1 + j) 0) := by
  suffices h : ∀ k, ∀ q, q < H.length → H.length - q = k → ∃ j, q + 1 + j ≤ H.length ∧ (∀ i, i < j → ¬ lev < H.getD (q + 1 + i) 0) ∧ (q + 1 + j = H.length ∨ lev < H.getD (q + 1 + j) 0) from h _ q hq rfl
  intro k
  induction k with
  | zero => intro q h1 h2; omega
  | succ k ih =>
    intro q h1 h2
    by_cases e : q + 1 = H.length
    · exact ⟨0, by omega, fun i hi => by omega, .inl (by omega)⟩
    · by_cases e2 : lev < H.getD (q + 1) 0
      · exact ⟨0, by omega, fun i hi => by omega, .inr e2⟩
      · obtain ⟨j, g1, g2, g3⟩ := ih (q + 1) (by omega) (by omega)
        refine ⟨j + 1, by omega, fun i hi => ?_, ?_⟩
        · cases i with
          | zero => exact e2
          | succ i => rw [show q + 1 + (i + 1) = q + 1 + 1 + i by omega]; exact g2 i (by omega)
        · rw [show q + 1 + (j + 1) = q + 1 + 1 + j by omega]; exact g3
theorem yhi_more (H : List Nat) (lev a b : Nat) (h : a ≤ b) : yhi H lev b = yhi H lev a ++ (List.range' a (b - a)).filter fun i => decide (lev < H.getD i 0) := by
  rw [yhi, yhi, ← List.filter_append]
  congr 1
  rw [List.range_eq_range', List.range_eq_range', show b = a + (b - a) by omega, ← List.range'_append_1]
  simp
theorem yhi_prefix (H : List Nat) (lev a b : Nat) (h : a ≤ b) : (yhi H lev b).take (yhi H lev a).length = yhi H lev a := by
  rw [yhi_more H lev a b h, List.take_left]
theorem yhi_at {H : List Nat} {lev i b : Nat} (h : i < b) (hi : lev < H.getD i 0) : (yhi H lev i).length < (yhi H lev b).length ∧ (yhi H lev b).getD (yhi H lev i).length 0 = i := by
  have h1 := yhi_prefix H lev (i + 1) b (by omega)
  rw [yhi_yes hi, List.length_append, List.length_singleton] at h1
  have h2 : (yhi H lev i).length < (yhi H lev b).length := by
    have := congrArg List.length h1
    rw [List.length_take, List.length_append, List.length_singleton] at this
    omega
  refine ⟨h2, ?_⟩
  have h3 := congrArg (fun l => l[(yhi H lev i).length]?) h1
  simp only [List.getElem?_take, Nat.lt_succ_self, if_true] at h3
  rw [List.getElem?_append_right (Nat.le_refl _), Nat.sub_self] at h3
  simp only [List.getD, h3]
  rfl
theorem yhi_lt_at {H : List Nat} {lev n i j : Nat} (hij : i < j) (hj : j < (yhi H lev n).length) : (yhi H lev n).getD i 0 < (yhi H lev n).getD j 0 := by
  have h := List.pairwise_iff_getElem.1 (yhi_pair H lev n) i j (by omega) hj hij
  simpa [List.getD, hj, show i < (yhi H lev n).length by omega] using h
theorem yhi_mem_at {H : List Nat} {lev n i : Nat} (hi : i < (yhi H lev n).length) : (yhi H lev n).getD i 0 < n ∧ lev < H.getD ((yhi H lev n).getD i 0) 0 := by
  refine yhi_lt (H := H) (lev := lev) (j := n) ?_
  simp only [List.getD, List.getElem?_eq_getElem hi, Option.getD_some]
  exact List.getElem_mem hi

/-- What is joined with the own place, ahead of it and behind it. -/
def pbef (H : List Nat) (lev q : Nat) : List Nat := (yfrom H lev (pown H (lev + 1) q)).filter fun i => decide (i < pown H lev q)
def paft (H : List Nat) (lev q : Nat) : List Nat := (yfrom H lev (pown H (lev + 1) q)).filter fun i => decide (pown H lev q < i)
theorem yfrom_range {H : List Nat} {lev q j : Nat} (h0 : lev < H.getD q 0) (hj : q + 1 + j ≤ H.length) (h1 : ∀ i, i < j → ¬ lev + 1 < H.getD (q + 1 + i) 0) (h2 : q + 1 + j = H.length ∨ lev + 1 < H.getD (q + 1 + j) 0) :
    yfrom H lev q = (List.range' q (j + 1)).filter fun i => decide (lev < H.getD i 0) := by
  rw [yfrom_is H lev q j hj h1 h2, List.range'_succ, List.filter_cons, if_pos (by simpa using h0)]
theorem yfrom_pair (H : List Nat) (lev q : Nat) (hq : q < H.length) (h0 : lev < H.getD q 0) : (yfrom H lev q).Pairwise (· < ·) := by
  obtain ⟨j, g1, g2, g3⟩ := pend_ex H (lev + 1) q hq
  rw [yfrom_range h0 g1 g2 g3]
  exact List.Pairwise.filter _ (List.pairwise_lt_range' ..)
theorem yfrom_mem {H : List Nat} {lev q i : Nat} (hq : q < H.length) (h0 : lev < H.getD q 0) (hi : i ∈ yfrom H lev q) : i < H.length ∧ lev < H.getD i 0 := by
  obtain ⟨j, g1, g2, g3⟩ := pend_ex H (lev + 1) q hq
  rw [yfrom_range h0 g1 g2 g3] at hi
  simp only [List.mem_filter, List.mem_range'_1, decide_eq_true_eq] at hi
  exact ⟨by omega, hi.2⟩
theorem pown_mem {H : List Nat} {lev q : Nat} (h0 : lev + 1 < H.getD 0 0) (hq : q < H.length) : pown H lev q ∈ yfrom H lev (pown H (lev + 1) q) := by
  have a1 := pown_le H (lev + 1) q
  have a2 := pown_le H lev q
  have a3 := pown_hi h0 q
  have a4 := pown_hi (lev := lev) (H := H) (by omega) q
  have a5 := pown_up (q := q) h0
  obtain ⟨j, g1, g2, g3⟩ := pend_ex H (lev + 1) (pown H (lev + 1) q) (by omega)
  rw [yfrom_range (by omega) g1 g2 g3]
  simp only [List.mem_filter, List.mem_range'_1, decide_eq_true_eq]
  refine ⟨⟨a5, ?_⟩, a4⟩
  by_cases h : pown H (lev + 1) q + 1 + j ≤ q
  · rcases g3 with g3 | g3
    · omega
    · exact absurd g3 (pown_gap (by omega) h)
  · omega
theorem pfrom_split {H : List Nat} {lev q : Nat} (h0 : lev + 1 < H.getD 0 0) (hq : q < H.length) : yfrom H lev (pown H (lev + 1) q) = pbef H lev q ++ pown H lev q :: paft H lev q := by
  have a1 := pown_le H (lev + 1) q
  have a3 := pown_hi h0 q
  exact pf_split (yfrom_pair H lev _ (by omega) (by omega)) (pown_mem h0 hq)

/-- The bounds that a loop over a level's heights finds: from, the own place, the end. -/
structure PG (R : List Nat) (lev f p e : Nat) : Prop where
  fp : f ≤ p
  pe : p < e
  en : e ≤ R.length
  ff : lev + 1 < R.getD f 0
  below : ∀ j, f < j → j ≤ p → ¬ lev + 1 < R.getD j 0
  above : ∀ j, p < j → j < e → ¬ lev + 1 < R.getD j 0
  last : e = R.length ∨ lev + 1 < R.getD e 0
theorem ycut_mid {α : Type} (P : List α) (f p e : Nat) (x : α) (h1 : f ≤ p) (h2 : p < e) (h3 : e ≤ P.length) (hx : P[p]? = some x) : (P.take e).drop f = (P.take p).drop f ++ x :: (P.take e).drop (p + 1) := by
  have h4 : P.take e = P.take p ++ x :: (P.take e).drop (p + 1) := by
    have h5 := (List.take_append_drop (p + 1) (P.take e)).symm
    rw [List.take_take, Nat.min_eq_left (by omega), List.take_add_one, hx] at h5
    simpa using h5
  have h6 : f ≤ (P.take p).length := by rw [List.length_take]; omega
  rw [h4, List.drop_append_of_le_length h6, ← h4]
theorem pg_pieces {H : List Nat} {lev q f p e : Nat} (h0 : lev + 1 < H.getD 0 0) (hq : q < H.length) (hp : p + 1 = (yhi H lev (q + 1)).length) (hg : PG (yhts H lev) lev f p e) :
    ((yhi H lev H.length).take p).drop f = pbef H lev q ∧ ((yhi H lev H.length).take e).drop (p + 1) = paft H lev q ∧ (yhi H lev H.length).getD p 0 = pown H lev q := by
  have a1 := pown_le H (lev + 1) q
  have a2 := pown_le H lev q
  have a3 := pown_hi h0 q
  have a4 := pown_hi (lev := lev) (H := H) (by omega) q
  have a5 := pown_up (q := q) h0
  have hR : ∀ j, j < (yhi H lev H.length).length → (yhts H lev).getD j 0 = H.getD ((yhi H lev H.length).getD j 0) 0 := fun j hj => by
    simp [yhts, List.getD, hj]
  have hlen := yhts_len H lev
  have hen := hg.en
  have hfp := hg.fp
  have hpe := hg.pe
  rw [hlen] at hen
  have hown : yhi H lev (q + 1) = yhi H lev (pown H lev q) ++ [pown H lev q] := by
    rw [yhi_more H lev (pown H lev q + 1) (q + 1) (by omega), yhi_yes a4, List.filter_eq_nil_iff.2, List.append_nil]
    intro i hi
    simp only [List.mem_range'_1] at hi
    have := pown_gap (H := H) (lev := lev) (q := q) (i := i) (by omega) (by omega)
    simpa using this
  have hpo : p = (yhi H lev (pown H lev q)).length := by
    rw [hown, List.length_append, List.length_singleton] at hp
    omega
  obtain ⟨k1, k2⟩ := yhi_at (H := H) (lev := lev) (b := H.length) (show pown H lev q < H.length by omega) a4
  rw [← hpo] at k1 k2
  obtain ⟨k3, k4⟩ := yhi_at (H := H) (lev := lev) (i := pown H (lev + 1) q) (b := H.length) (by omega) (by omega)
  obtain ⟨j, g1, g2, g3⟩ := pend_ex H (lev + 1) (pown H (lev + 1) q) (by omega)
  have hqe : q < pown H (lev + 1) q + 1 + j := by
    by_cases h : pown H (lev + 1) q + 1 + j ≤ q
    · rcases g3 with g3 | g3
      · omega
      · exact absurd g3 (pown_gap (by omega) h)
    · omega
  have g4 : ∀ i, pown H (lev + 1) q < i → i < pown H (lev + 1) q + 1 + j → ¬ lev + 1 < H.getD i 0 := fun i h1 h2 => by
    have := g2 (i - (pown H (lev + 1) q + 1)) (by omega)
    rwa [show pown H (lev + 1) q + 1 + (i - (pown H (lev + 1) q + 1)) = i by omega] at this
  have hoo : (yhi H lev (pown H (lev + 1) q)).length ≤ p := by
    rw [hpo, yhi_more H lev _ _ a5, List.length_append]
    omega
  have hf : f = (yhi H lev (pown H (lev + 1) q)).length := by
    rcases Nat.lt_trichotomy f (yhi H lev (pown H (lev + 1) q)).length with h | h | h
    · exfalso
      refine hg.below _ h hoo ?_
      rw [hR _ k3, k4]
      exact a3
    · exact h
    · exfalso
      have h1 := yhi_lt_at (H := H) (lev := lev) (n := H.length) h (by omega)
      rw [k4] at h1
      have h2 : (yhi H lev H.length).getD f 0 ≤ pown H lev q := by
        rw [← k2]
        by_cases e2 : f = p
        · rw [e2]; exact Nat.le_refl _
        · exact Nat.le_of_lt (yhi_lt_at (by omega) k1)
      have h3 := hg.ff
      rw [hR f (by omega)] at h3
      exact pown_gap h1 (by omega) h3
  have hie : e = (yhi H lev (pown H (lev + 1) q + 1 + j)).length := by
    have hpe2 : p < (yhi H lev (pown H (lev + 1) q + 1 + j)).length := by
      have := (yhi_at (H := H) (lev := lev) (b := pown H (lev + 1) q + 1 + j) (show pown H lev q < _ by omega) a4).1
      omega
    have hle : (yhi H lev (pown H (lev + 1) q + 1 + j)).length ≤ (yhi H lev H.length).length := by
      rw [yhi_more H lev _ _ g1, List.length_append]
      omega
    rcases Nat.lt_trichotomy e (yhi H lev (pown H (lev + 1) q + 1 + j)).length with h | h | h
    · exfalso
      have hl := hg.last
      rcases hl with hl | hl
      · omega
      · rw [hR e (by omega)] at hl
        have h1 := yhi_lt_at (H := H) (lev := lev) (n := H.length) hpe (by omega)
        rw [k2] at h1
        have h2 : (yhi H lev H.length).getD e 0 = (yhi H lev (pown H (lev + 1) q + 1 + j)).getD e 0 := by
          rw [← yhi_prefix H lev _ _ g1]
          simp only [List.getD, List.getElem?_take, h, if_true]
        have h3 := (yhi_mem_at (H := H) (lev := lev) h).1
        rw [← h2] at h3
        exact g4 _ (by omega) h3 hl
    · exact h
    · exfalso
      rcases g3 with g3 | g3
      · rw [g3] at h; omega
      · by_cases g5 : pown H (lev + 1) q + 1 + j = H.length
        · rw [g5] at h; omega
        · obtain ⟨k5, k6⟩ := yhi_at (H := H) (lev := lev) (i := pown H (lev + 1) q + 1 + j) (b := H.length) (by omega) (by omega)
          refine hg.above _ hpe2 h ?_
          rw [hR _ k5, k6]
          exact g3
  have hwhole : ((yhi H lev H.length).take e).drop f = yfrom H lev (pown H (lev + 1) q) := by
    rw [hie, yhi_prefix H lev _ _ g1, hf, yhi_more H lev (pown H (lev + 1) q) (pown H (lev + 1) q + 1 + j) (by omega), List.drop_left, yfrom_range (by omega) g1 g2 g3, show pown H (lev + 1) q + 1 + j - pown H (lev + 1) q = j + 1 by omega]
  have hx : (yhi H lev H.length)[p]? = some (pown H lev q) := by
    rw [← k2]
    simp only [List.getD, List.getElem?_eq_getElem k1, Option.getD_some]
  have hm := ycut_mid (yhi H lev H.length) f p e _ hfp hpe hen hx
  rw [hwhole] at hm
  obtain ⟨r1, r2⟩ := pf_parts (yfrom_pair H lev _ (by omega) (by omega)) hm
  exact ⟨r1.symm, r2.symm, k2⟩
end Go.Proofs.YtjonhenllhnibaaGreatDoor
/- A proof's steps; that a number's proof shows its item; that a proof that shows another one has a step whose sum another text has. In plain lists. Nothing of any function. -/
namespace Go.Proofs.YtjonhenllhnibaaGreatDoor

/-- The steps of an item and a proof. -/
def psteps (x : ItL) (B F : List (List (List UInt8))) : Nat → List UInt8
  | 0 => yitem x
  | n + 1 => ytext (n + 1) (B.getD n [] ++ hsumL (psteps x B F n) :: F.getD n [])
/-- Rows that may be a proof's. -/
def PRow (R : List (List UInt8)) : Prop := R.length ≤ 64 ∧ ∀ s ∈ R, s.length = 32
def PRt (G : List (List (List UInt8))) : Prop := G.length = 8 ∧ ∀ R ∈ G, PRow R
theorem PRt.at {G : List (List (List UInt8))} (h : PRt G) (j : Nat) : PRow (G.getD j []) := by
  by_cases hj : j < G.length
  · have e : G.getD j [] = G[j] := by simp [List.getD, hj]
    rw [e]
    exact h.2 _ (List.getElem_mem hj)
  · have e : G.getD j [] = [] := by simp [List.getD, List.getElem?_eq_none (Nat.le_of_not_lt hj)]
    rw [e]
    exact ⟨by simp, by simp⟩
instance (R : List (List UInt8)) : Decidable (PRow R) := inferInstanceAs (Decidable (_ ∧ _))
instance (G : List (List (List UInt8))) : Decidable (PRt G) := inferInstanceAs (Decidable (_ ∧ _))

theorem pflat_inj {L M : List (List UInt8)} (hL : ∀ x ∈ L, x.length = 32) (hM : ∀ x ∈ M, x.length = 32) (h : L.flatten = M.flatten) : L = M := by
  induction L generalizing M with
  | nil =>
    cases M with
    | nil => rfl
    | cons y r =>
      have h1 := congrArg List.length h
      have h2 := hM y (by simp)
      rw [List.flatten_cons, List.length_append, List.flatten_nil, List.length_nil] at h1
      omega
  | cons x l ih =>
    cases M with
    | nil =>
      have h1 := congrArg List.length h
      have h2 := hL x (by simp)
      rw [List.flatten_cons, List.length_append, List.flatten_nil, List.length_nil] at h1
      omega
    | cons y r =>
      rw [List.flatten_cons, List.flatten_cons] at h
      obtain ⟨h1, h2⟩ := List.append_inj h (by rw [hL x (by simp), hM y (by simp)])
      rw [h1, ih (fun z hz => hL z (by simp [hz])) (fun z hz => hM z (by simp [hz])) h2]
theorem ytext_inj {n : Nat} {L M : List (List UInt8)} (hL : ∀ x ∈ L, x.length = 32) (hM : ∀ x ∈ M, x.length = 32) (h : ytext n L = ytext n M) : L = M :=
  pflat_inj hL hM (List.append_cancel_left h)
theorem yitem_inj {x y : ItL} (hx : x.1 < 18446744073709551616) (hy : y.1 < 18446744073709551616) (h : yitem x = yitem y) : x = y := by
  unfold yitem at h
  obtain ⟨h1, h2⟩ := List.append_inj h (by simp [low_length])
  have h3 := List.append_cancel_left h1
  obtain ⟨h4, h5⟩ := List.append_inj h2 (by simp [low_length])
  exact Prod.ext (low_inj (k := 8) (by omega) (by omega) h3) h5
theorem yitem_not (x : ItL) : yitem x ≠ [1] := fun h => by
  have := congrArg List.length h
  simp [yitem, low_length] at this

/-- The texts that are summed for a list's label. -/
def pallI (Z : List ItL) (q : Nat) : List (List UInt8) := if q = 0 then [] else [yitem (Z.getD (q - 1) (0, []))]
def pallT (base : Nat → List UInt8) (H : List Nat) (q lev : Nat) : List UInt8 := ytext (lev + 1) ((yfrom H lev q).map (ylab base H lev))
def pallP (base : Nat → List UInt8) (H : List Nat) (q j : Nat) : List (List UInt8) := ((List.range j).filter fun lev => decide (lev + 1 < H.getD q 0)).map (pallT base H q)
theorem pallP_zero (base : Nat → List UInt8) (H : List Nat) (q : Nat) : pallP base H q 0 = [] := rfl
theorem pallP_yes {base : Nat → List UInt8} {H : List Nat} {q j : Nat} (h : j + 1 < H.getD q 0) : pallP base H q (j + 1) = pallP base H q j ++ [pallT base H q j] := by
  simp only [pallP, List.range_succ, List.filter_append, List.filter_cons, List.filter_nil, List.map_append]
  rw [if_pos (by simpa using h)]
  rfl
theorem pallP_no {base : Nat → List UInt8} {H : List Nat} {q j : Nat} (h : ¬ j + 1 < H.getD q 0) : pallP base H q (j + 1) = pallP base H q j := by
  simp only [pallP, List.range_succ, List.filter_append, List.filter_cons, List.filter_nil, List.map_append]
  rw [if_neg (by simpa using h)]
  simp
def pall (Z : List ItL) (base : Nat → List UInt8) (H : List Nat) (m : Nat) : List (List UInt8) := [1] :: (List.range m).flatMap fun q => pallI Z q ++ pallP base H q 8
theorem pall_zero (Z : List ItL) (base : Nat → List UInt8) (H : List Nat) : pall Z base H 0 = [[1]] := rfl
theorem pall_more (Z : List ItL) (base : Nat → List UInt8) (H : List Nat) (m : Nat) : pall Z base H (m + 1) = pall Z base H m ++ pallI Z m ++ pallP base H m 8 := by
  simp [pall, List.range_succ, List.flatMap_append]
theorem pall_head (Z : List ItL) (base : Nat → List UInt8) (H : List Nat) (m : Nat) : [1] ∈ pall Z base H m := by simp [pall]
theorem pall_item (Z : List ItL) (base : Nat → List UInt8) (H : List Nat) {m q : Nat} (hq : q + 1 < m) : yitem (Z.getD q (0, [])) ∈ pall Z base H m := by
  simp only [pall, List.mem_cons, List.mem_flatMap, List.mem_range, List.mem_append]
  exact .inr ⟨q + 1, hq, .inl (by simp [pallI])⟩
theorem pall_text (Z : List ItL) (base : Nat → List UInt8) (H : List Nat) {m q lev : Nat} (hq : q < m) (hl : lev < 8) (h : lev + 1 < H.getD q 0) : pallT base H q lev ∈ pall Z base H m := by
  simp only [pall, List.mem_cons, List.mem_flatMap, List.mem_range, List.mem_append]
  refine .inr ⟨q, hq, .inr ?_⟩
  simp only [pallP, List.mem_map, List.mem_filter, List.mem_range, decide_eq_true_eq]
  exact ⟨lev, ⟨hl, h⟩, rfl⟩

/-- A step has the sum of another text that is summed for a list's label. -/
def PTwice (x : ItL) (B F : List (List (List UInt8))) (T : List (List UInt8)) : Prop := ∃ m, m ≤ 8 ∧ ∃ t ∈ T, psteps x B F m ≠ t ∧ hsumL (psteps x B F m) = hsumL t

theorem pbind_down {k : List UInt8} {Z : List ItL} {x : ItL} {B F : List (List (List UInt8))} (hB : PRt B) (hF : PRt F) (hroot : hsumL (psteps x B F 8) = yroot k Z)
    (hno : ¬ PTwice x B F (pall Z (ybase Z) (yht k Z) (Z.length + 1))) :
    ∀ d, d ≤ 8 → ∃ q, q < Z.length + 1 ∧ 8 - d < (yht k Z).getD q 0 ∧ hsumL (psteps x B F (8 - d)) = ylab (ybase Z) (yht k Z) (8 - d) q := by
  intro d
  induction d with
  | zero => intro _; exact ⟨0, by omega, by rw [yht_zero]; omega, hroot⟩
  | succ d ih =>
    intro hd
    obtain ⟨q, hq, hh, he⟩ := ih (by omega)
    obtain ⟨m, hm⟩ : ∃ m, 8 - d = m + 1 := ⟨8 - d - 1, by omega⟩
    rw [show 8 - (d + 1) = m by omega]
    rw [hm] at hh he
    have hlen : (yht k Z).length = Z.length + 1 := yht_len k Z
    have htx : psteps x B F (m + 1) = pallT (ybase Z) (yht k Z) q m := by
      apply Classical.byContradiction
      intro hne
      exact hno ⟨m + 1, by omega, _, pall_text Z (ybase Z) (yht k Z) hq (by omega) hh, hne, he⟩
    have hL : ∀ s ∈ B.getD m [] ++ hsumL (psteps x B F m) :: F.getD m [], s.length = 32 := fun s hs => by
      rw [List.mem_append, List.mem_cons] at hs
      rcases hs with hs | rfl | hs
      · exact (hB.at m).2 s hs
      · exact hsum32 _
      · exact (hF.at m).2 s hs
    have hM : ∀ s ∈ (yfrom (yht k Z) m q).map (ylab (ybase Z) (yht k Z) m), s.length = 32 := fun s hs => by
      obtain ⟨i, _, rfl⟩ := List.mem_map.1 hs
      exact ylab_len k Z m i
    have hsame := ytext_inj hL hM htx
    have hmem : hsumL (psteps x B F m) ∈ (yfrom (yht k Z) m q).map (ylab (ybase Z) (yht k Z) m) := by rw [← hsame]; simp
    obtain ⟨i, hi, hl⟩ := List.mem_map.1 hmem
    obtain ⟨h1, h2⟩ := yfrom_mem (by omega) (by omega) hi
    exact ⟨i, by omega, h2, hl.symm⟩
/-- P18.3's second half. -/
theorem pbind {k : List UInt8} {Z : List ItL} {x : ItL} {B F : List (List (List UInt8))} (hZ : ∀ y ∈ Z, y.1 < 18446744073709551616) (hx : x.1 < 18446744073709551616) (hB : PRt B) (hF : PRt F)
    (hroot : hsumL (psteps x B F 8) = yroot k Z) (hnot : x ∉ Z) : PTwice x B F (pall Z (ybase Z) (yht k Z) (Z.length + 1)) := by
  apply Classical.byContradiction
  intro hno
  obtain ⟨q, hq, _, he⟩ := pbind_down hB hF hroot hno 8 (Nat.le_refl _)
  rw [show 8 - 8 = 0 from rfl] at he
  have he2 : hsumL (psteps x B F 0) = ybase Z q := he
  unfold ybase at he2
  by_cases h0 : q = 0
  · rw [if_pos h0] at he2
    exact hno ⟨0, by omega, [1], pall_head .., yitem_not x, he2⟩
  · rw [if_neg h0] at he2
    have hql : q - 1 < Z.length := by omega
    have hmem : Z.getD (q - 1) (0, []) ∈ Z := by
      simp only [List.getD, List.getElem?_eq_getElem hql, Option.getD_some]
      exact List.getElem_mem hql
    by_cases hs : yitem x = yitem (Z.getD (q - 1) (0, []))
    · have := yitem_inj hx (hZ _ hmem) hs
      exact hnot (this ▸ hmem)
    · exact hno ⟨0, by omega, _, pall_item Z (ybase Z) (yht k Z) (q := q - 1) (by omega), hs, he2⟩

/-- A number's proof, of the item at a place. -/
def pbefL (k : List UInt8) (Z : List ItL) (q lev : Nat) : List (List UInt8) := (pbef (yht k Z) lev q).map (ylab (ybase Z) (yht k Z) lev)
def paftL (k : List UInt8) (Z : List ItL) (q lev : Nat) : List (List UInt8) := (paft (yht k Z) lev q).map (ylab (ybase Z) (yht k Z) lev)
def pB (k : List UInt8) (Z : List ItL) (q : Nat) (n : Nat) : List (List (List UInt8)) := (List.range n).map (pbefL k Z q)
def pF (k : List UInt8) (Z : List ItL) (q : Nat) (n : Nat) : List (List (List UInt8)) := (List.range n).map (paftL k Z q)
theorem pB_len (k : List UInt8) (Z : List ItL) (q n : Nat) : (pB k Z q n).length = n := by simp [pB]
theorem pF_len (k : List UInt8) (Z : List ItL) (q n : Nat) : (pF k Z q n).length = n := by simp [pF]
theorem pB_more (k : List UInt8) (Z : List ItL) (q n : Nat) : pB k Z q (n + 1) = pB k Z q n ++ [pbefL k Z q n] := by simp [pB, List.range_succ]
theorem pF_more (k : List UInt8) (Z : List ItL) (q n : Nat) : pF k Z q (n + 1) = pF k Z q n ++ [paftL k Z q n] := by simp [pF, List.range_succ]
theorem pB_at (k : List UInt8) (Z : List ItL) (q : Nat) {m n : Nat} (h : m < n) : (pB k Z q n).getD m [] = pbefL k Z q m := by simp [pB, List.getD, h]
theorem pF_at (k : List UInt8) (Z : List ItL) (q : Nat) {m n : Nat} (h : m < n) : (pF k Z q n).getD m [] = paftL k Z q m := by simp [pF, List.getD, h]
theorem pboth_len (k : List UInt8) (Z : List ItL) {q lev : Nat} (hq : q < Z.length + 1) (hl : lev < 8) : (pbefL k Z q lev).length + 1 + (paftL k Z q lev).length ≤ Z.length + 1 := by
  have h := pfrom_split (H := yht k Z) (lev := lev) (q := q) (by rw [yht_zero]; omega) (by rw [yht_len]; exact hq)
  have h1 := pown_le (yht k Z) (lev + 1) q
  have h2 := yfrom_len (yht k Z) lev (pown (yht k Z) (lev + 1) q) (by rw [yht_len]; omega)
  have h3 := congrArg List.length h
  rw [List.length_append, List.length_cons] at h3
  rw [yht_len] at h2
  simp only [pbefL, paftL, List.length_map]
  omega
theorem pB_right {k : List UInt8} {Z : List ItL} {q : Nat} (hz : Z.length ≤ 64) (hq : q < Z.length + 1) : PRt (pB k Z q 8) ∧ PRt (pF k Z q 8) := by
  refine ⟨⟨pB_len .., fun R hR => ?_⟩, ⟨pF_len .., fun R hR => ?_⟩⟩
  · simp only [pB, List.mem_map, List.mem_range] at hR
    obtain ⟨lev, hl, rfl⟩ := hR
    have := pboth_len k Z hq hl
    refine ⟨by omega, fun s hs => ?_⟩
    obtain ⟨i, _, rfl⟩ := List.mem_map.1 hs
    exact ylab_len k Z lev i
  · simp only [pF, List.mem_map, List.mem_range] at hR
    obtain ⟨lev, hl, rfl⟩ := hR
    have := pboth_len k Z hq hl
    refine ⟨by omega, fun s hs => ?_⟩
    obtain ⟨i, _, rfl⟩ := List.mem_map.1 hs
    exact ylab_len k Z lev i
theorem pshow_up {k : List UInt8} {Z : List ItL} {j : Nat} (hj : j < Z.length) : ∀ m, m ≤ 8 → hsumL (psteps (Z.getD j (0, [])) (pB k Z (j + 1) 8) (pF k Z (j + 1) 8) m) = ylab (ybase Z) (yht k Z) m (pown (yht k Z) m (j + 1)) := by
  intro m
  induction m with
  | zero =>
    intro _
    have h := (yht_one k Z j hj).1
    rw [pown_yes (by omega)]
    rfl
  | succ m ih =>
    intro hm
    show hsumL (ytext (m + 1) _) = hsumL (ytext (m + 1) _)
    have h := pfrom_split (H := yht k Z) (lev := m) (q := j + 1) (by rw [yht_zero]; omega) (by rw [yht_len]; omega)
    rw [h, ih (by omega), pB_at k Z (j + 1) (by omega), pF_at k Z (j + 1) (by omega), List.map_append, List.map_cons]
    rfl
/-- P18.3's first half. -/
theorem pshow {k : List UInt8} {Z : List ItL} {j : Nat} (hj : j < Z.length) : hsumL (psteps (Z.getD j (0, [])) (pB k Z (j + 1) 8) (pF k Z (j + 1) 8) 8) = yroot k Z := by
  rw [pshow_up hj 8 (Nat.le_refl _), pown_is (p := 0) (by omega) (by rw [yht_zero]; omega) (fun i h1 h2 => by
    obtain ⟨t, rfl⟩ : ∃ t, i = t + 1 := ⟨i - 1, by omega⟩
    have := (yht_one k Z t (by omega)).2
    omega)]
  rfl
end Go.Proofs.YtjonhenllhnibaaGreatDoor
/- Rows of rows of texts that can be read, with room. Nothing of any function. -/
namespace Go.Proofs.YtjonhenllhnibaaGreatDoor
open Go.RowKit

/-- A row of rows of texts that can be read; none is longer than its room. -/
def LR (w : World) (A : Option Addr) (G : List (List (List UInt8))) : Prop :=
  ∀ i, i < G.length → ∃ g off B d, A = some ⟨g, off, none⟩ ∧ w.cell? ⟨g, off + i, none⟩ = some (.slice B (G.getD i []).length d) ∧ (G.getD i []).length ≤ d ∧ SR w B (G.getD i [])
theorem LR.later {w w' : World} {A : Option Addr} {G : List (List (List UInt8))} (h : LR w A G) (hb : Below w.heap.size w w') : LR w' A G := fun i hi => by
  obtain ⟨g, off, B, d, e, h0, h1, h2⟩ := h i hi
  exact ⟨g, off, B, d, e, cell_later hb h0, h1, h2.later hb⟩
theorem LR.drewN {w : World} {A : Option Addr} {G : List (List (List UInt8))} (h : LR w A G) (n : Nat) : LR (w.drewN n) A G := h
theorem LR.nil (w : World) (A : Option Addr) : LR w A [] := fun j hj => absurd hj (by simp)
theorem GO.lr {W : World} {base b base2 c n : Nat} {A : Option Addr} {Vs : List Value} {G : List (List (List UInt8))} (h : GO W base b Vs G) (hr : W.ownsRow base2 43 1 (.slice A n c) n Vs) (hn : G.length = n) : LR W A G := fun i hi => by
  obtain ⟨v, h1, h2, _⟩ := h.2 i hi
  obtain ⟨A', c', e, hh⟩ := own_form hr
  injection e with e1 _ e3
  subst e1
  subst e3
  rcases hh with ⟨_, h0, _⟩ | ⟨g, rfl, _⟩
  · omega
  · obtain ⟨B, d, rfl, h3⟩ := own_form h2
    exact ⟨g, 0, B, d, rfl, by rw [Nat.zero_add, hr.cellAt i (by omega)]; exact h1, by rcases h3 with ⟨_, h4, h5⟩ | ⟨_, _, h4, _⟩ <;> omega, own_SR' h2 rfl⟩
theorem own_room {W : World} {base : Nat} {e : TypeId} {size n c : Nat} {A : Option Addr} {xs : List Value} (h : W.ownsRow base e size (.slice A n c) n xs) : n ≤ c := by
  obtain ⟨A', c', e, hh⟩ := own_form h
  injection e with _ _ e3
  subst e3
  rcases hh with ⟨_, h4, h5⟩ | ⟨_, _, h4, _⟩ <;> omega
/-- Some row may not be a proof's. -/
def PNo (G : List (List (List UInt8))) : Prop := ∃ i, i < G.length ∧ ¬ PRow (G.getD i [])
theorem prt_iff {G : List (List (List UInt8))} (h : G.length = 8) : PRt G ↔ ¬ PNo G := by
  constructor
  · rintro hr ⟨i, _, h2⟩
    exact h2 (hr.at i)
  · intro hn
    refine ⟨h, fun R hR => ?_⟩
    obtain ⟨i, hi, rfl⟩ := List.getElem_of_mem hR
    apply Classical.byContradiction
    intro h2
    exact hn ⟨i, hi, by simpa [List.getD, hi] using h2⟩
theorem prow_iff {R : List (List UInt8)} (h : R.length ≤ 64) : PRow R ↔ ∀ j, j < R.length → (R.getD j []).length = 32 := by
  constructor
  · intro hr j hj
    have e : R.getD j [] = R[j] := by simp [List.getD, hj]
    rw [e]
    exact hr.2 _ (List.getElem_mem hj)
  · intro hr
    refine ⟨h, fun s hs => ?_⟩
    obtain ⟨i, hi, rfl⟩ := List.getElem_of_mem hs
    have := hr i hi
    simpa [List.getD, hi] using this
end Go.Proofs.YtjonhenllhnibaaGreatDoor
/- A proof in the making: its two rows of rows, and what an append to either leaves. Nothing of any function. -/
namespace Go.Proofs.YtjonhenllhnibaaGreatDoor
open Go.RowKit

/-- The two rows lie apart. -/
def PApart (v u : Value) : Prop := ∀ k, v.ownBlock = some k → u.ownBlock ≠ some k
/-- Before and After so far: n rows, m rows. -/
structure PQ (W : World) (base bp : Nat) (X : Option Addr) (n c : Nat) (Vs : List Value) (Y : Option Addr) (m d : Nat) (Us : List Value) (G F : List (List (List UInt8))) : Prop where
  blk : Blk W bp 26 #[.slice X n c, .slice Y m d]
  lt : bp < base
  bs : base ≤ W.heap.size
  row0 : W.ownsRow base 43 1 (.slice X n c) n Vs
  row1 : W.ownsRow base 43 1 (.slice Y m d) m Us
  in0 : GO W base W.heap.size Vs G
  in1 : GO W base W.heap.size Us F
  apart : PApart (.slice X n c) (.slice Y m d)
section
variable {W W' : World} {base bp n c m d : Nat} {X Y : Option Addr} {Vs Us : List Value} {G F : List (List (List UInt8))}
theorem GO.more_room (h : GO W base n Vs G) (hn : n ≤ m) : GO W base m Vs G :=
  ⟨h.1, fun i hi => by
    obtain ⟨v, h1, h2, h3⟩ := h.2 i hi
    exact ⟨v, h1, h2, fun g hg => Nat.lt_of_lt_of_le (h3 g hg) hn⟩⟩
theorem PQ.below (h : PQ W base bp X n c Vs Y m d Us G F) (hb : Below W.heap.size W W') : PQ W' base bp X n c Vs Y m d Us G F :=
  ⟨h.blk.below hb, h.lt, Nat.le_trans h.bs hb.size, own_later h.row0 hb, own_later h.row1 hb, (h.in0.below hb).more_room hb.size, (h.in1.below hb).more_room hb.size, h.apart⟩
theorem PQ.drew (h : PQ W base bp X n c Vs Y m d Us G F) : PQ W.drew base bp X n c Vs Y m d Us G F := ⟨h.blk, h.lt, h.bs, h.row0, h.row1, h.in0, h.in1, h.apart⟩
theorem PQ.start (hb : Blk W bp 26 #[.slice none 0 0, .slice none 0 0]) (hl : bp < base) (hs : base ≤ W.heap.size) : PQ W base bp none 0 0 [] none 0 0 [] [] [] :=
  ⟨hb, hl, hs, World.ownsRow_nil _ _ _ _, World.ownsRow_nil _ _ _ _, GO.nil _ _ _, GO.nil _ _ _, fun k hk => by cases hk⟩
theorem GO.far {k : Nat} {g o : Nat} {u : Value} {t : TypeId} {cs : Array Value} (h : GO W base k Vs G) (hb : Blk W g t cs) (ht : t ≠ 9) : GO (W.setCell ⟨g, o, none⟩ u) base k Vs G :=
  h.kept fun j _ hc => Below.heap_setCell W ⟨g, o, none⟩ u j (fun e => by
    have e' : j = g := e
    subst e'
    obtain ⟨cur, hc⟩ := hc
    have h1 : W.heap[j]? = some (.cells cs t (0, 0)) := hb
    rw [hc] at h1
    injection h1 with h1
    injection h1 with _ h2
    exact ht h2.symm)
/-- A cell of another block, of no text, is written. -/
theorem PQ.far {g o : Nat} {u : Value} {t : TypeId} {cs : Array Value} (h : PQ W base bp X n c Vs Y m d Us G F) (hb : Blk W g t cs) (ht : t ≠ 9) (hg : g < base) (hne : g ≠ bp) : PQ (W.setCell ⟨g, o, none⟩ u) base bp X n c Vs Y m d Us G F :=
  ⟨h.blk.far (p := ⟨g, o, none⟩) (fun e => hne e.symm) u, h.lt, by simpa using h.bs, yown_far h.row0 hg u, yown_far h.row1 hg u, by
    have := h.in0.far (o := o) (u := u) hb ht
    rwa [show (W.setCell ⟨g, o, none⟩ u).heap.size = W.heap.size by simp], by
    have := h.in1.far (o := o) (u := u) hb ht
    rwa [show (W.setCell ⟨g, o, none⟩ u).heap.size = W.heap.size by simp], h.apart⟩
theorem PQ.read0 (h : PQ W base bp X n c Vs Y m d Us G F) (hn : G.length = n) : LR W X G := h.in0.lr h.row0 hn
theorem PQ.read1 (h : PQ W base bp X n c Vs Y m d Us G F) (hn : F.length = m) : LR W Y F := h.in1.lr h.row1 hn
theorem own_lt {e : TypeId} {size : Nat} {v : Value} {xs : List Value} {k : Nat} (h : W.ownsRow base e size v n xs) (hk : v.ownBlock = some k) : base ≤ k ∧ k < W.heap.size := h.lt k hk
end
/-- Behind an append to Before, and its store. -/
theorem PQ.put0 {W w5 : World} {base bp n c m d gg cap : Nat} {X Y : Option Addr} {Vs Us : List Value} {G F : List (List (List UInt8))} {v : Value} {O : List (List UInt8)} (h : PQ W base bp X n c Vs Y m d Us G F) (hv : W.ownsRow base 9 1 v O.length (O.map sv))
    (hX : (W.alloc (.cells #[v] 43)).ownsRow base 43 1 (.slice X n c) n Vs)
    (h5 : w5.ownsRow base 43 1 (.slice (some ⟨gg, 0, none⟩) (n + 1) cap) (n + 1) (Vs ++ [v]))
    (hgr : (W.alloc (.cells #[v] 43)).grownBy w5 (Value.slice X n c).ownBlock) (hat : (Value.slice X n c).ownBlock = some gg ∨ gg = W.heap.size + 1) :
    PQ (w5.setCell ⟨bp, 0, none⟩ (.slice (some ⟨gg, 0, none⟩) (n + 1) cap)) base bp (some ⟨gg, 0, none⟩) (n + 1) cap (Vs ++ [v]) Y m d Us (G ++ [O]) F ∧
    (∀ j, j < W.heap.size → j ≠ bp → (Value.slice X n c).ownBlock ≠ some j → (w5.setCell ⟨bp, 0, none⟩ (.slice (some ⟨gg, 0, none⟩) (n + 1) cap)).heap[j]? = W.heap[j]?) := by
  have hbe := ba (Below.refl W.heap.size W) (.cells #[v] 43)
  have hp := h.below hbe
  have hv1 := own_later hv hbe
  have hbs : w5.heap.size ≥ W.heap.size + 1 := by have := hgr.size; simpa using this
  have hnb : ∀ k, (Value.slice X n c).ownBlock = some k → base ≤ k ∧ k < W.heap.size := fun k hk => h.row0.lt k hk
  have hbp : Blk w5 bp 26 #[.slice X n c, .slice Y m d] := hp.blk.grown hgr (fun e => by have := (hnb bp e.symm).1; have := h.lt; omega)
  have hY5 : w5.ownsRow base 43 1 (.slice Y m d) m Us := gown_kept hp.row1 (fun k hk => hgr.block k (hp.row1.lt k hk).2 (fun e => h.apart k e.symm hk))
  have hv5 : w5.ownsRow base 9 1 v O.length (O.map sv) := own_rows hv hX hgr
  have g0 : GO w5 base W.heap.size Vs G := h.in0.rows hX hgr
  have g1 : GO w5 base W.heap.size Us F := h.in1.rows hX hgr
  have g0' : GO w5 base w5.heap.size (Vs ++ [v]) (G ++ [O]) := (g0.more hv5 (by omega) (fun k hk => (hv5.lt k hk).2))
  have hs : (w5.setCell ⟨bp, 0, none⟩ (.slice (some ⟨gg, 0, none⟩) (n + 1) cap)).heap.size = w5.heap.size := by simp
  have hbs0 := h.bs
  refine ⟨⟨hbp.set_ 0 _, h.lt, by rw [hs]; omega, yown_far h5 h.lt _, yown_far hY5 h.lt _, ?_, ?_, ?_⟩, ?_⟩
  · rw [hs]; exact g0'.far hbp (by decide)
  · rw [hs]; exact (g1.more_room (by omega)).far hbp (by decide)
  · intro k hk hk2
    have hkk : gg = k := by cases hk; rfl
    rcases hat with e | e
    · exact h.apart k (by rw [e, hkk]) hk2
    · have := (h.row1.lt k hk2).2; omega
  · intro j hj hne ho
    exact (Below.heap_setCell w5 _ _ j hne).trans ((hgr.block j (by simp; omega) (fun e => ho e.symm)).trans (hbe.block j hj))
/-- Behind an append to After, and its store. -/
theorem PQ.put1 {W w5 : World} {base bp n c m d gg cap : Nat} {X Y : Option Addr} {Vs Us : List Value} {G F : List (List (List UInt8))} {v : Value} {O : List (List UInt8)} (h : PQ W base bp X n c Vs Y m d Us G F) (hv : W.ownsRow base 9 1 v O.length (O.map sv))
    (hX : (W.alloc (.cells #[v] 43)).ownsRow base 43 1 (.slice Y m d) m Us)
    (h5 : w5.ownsRow base 43 1 (.slice (some ⟨gg, 0, none⟩) (m + 1) cap) (m + 1) (Us ++ [v]))
    (hgr : (W.alloc (.cells #[v] 43)).grownBy w5 (Value.slice Y m d).ownBlock) (hat : (Value.slice Y m d).ownBlock = some gg ∨ gg = W.heap.size + 1) :
    PQ (w5.setCell ⟨bp, 1, none⟩ (.slice (some ⟨gg, 0, none⟩) (m + 1) cap)) base bp X n c Vs (some ⟨gg, 0, none⟩) (m + 1) cap (Us ++ [v]) G (F ++ [O]) ∧
    (∀ j, j < W.heap.size → j ≠ bp → (Value.slice Y m d).ownBlock ≠ some j → (w5.setCell ⟨bp, 1, none⟩ (.slice (some ⟨gg, 0, none⟩) (m + 1) cap)).heap[j]? = W.heap[j]?) := by
  have hbe := ba (Below.refl W.heap.size W) (.cells #[v] 43)
  have hp := h.below hbe
  have hv1 := own_later hv hbe
  have hbs : w5.heap.size ≥ W.heap.size + 1 := by have := hgr.size; simpa using this
  have hnb : ∀ k, (Value.slice Y m d).ownBlock = some k → base ≤ k ∧ k < W.heap.size := fun k hk => h.row1.lt k hk
  have hbp : Blk w5 bp 26 #[.slice X n c, .slice Y m d] := hp.blk.grown hgr (fun e => by have := (hnb bp e.symm).1; have := h.lt; omega)
  have hY5 : w5.ownsRow base 43 1 (.slice X n c) n Vs := gown_kept hp.row0 (fun k hk => hgr.block k (hp.row0.lt k hk).2 (fun e => h.apart k hk e.symm))
  have hv5 : w5.ownsRow base 9 1 v O.length (O.map sv) := own_rows hv hX hgr
  have g0 : GO w5 base W.heap.size Us F := h.in1.rows hX hgr
  have g1 : GO w5 base W.heap.size Vs G := h.in0.rows hX hgr
  have g0' : GO w5 base w5.heap.size (Us ++ [v]) (F ++ [O]) := (g0.more hv5 (by omega) (fun k hk => (hv5.lt k hk).2))
  have hs : (w5.setCell ⟨bp, 1, none⟩ (.slice (some ⟨gg, 0, none⟩) (m + 1) cap)).heap.size = w5.heap.size := by simp
  have hbs0 := h.bs
  refine ⟨⟨hbp.set_ 1 _, h.lt, by rw [hs]; omega, yown_far hY5 h.lt _, yown_far h5 h.lt _, ?_, ?_, ?_⟩, ?_⟩
  · rw [hs]; exact (g1.more_room (by omega)).far hbp (by decide)
  · rw [hs]; exact g0'.far hbp (by decide)
  · intro k hk hk2
    have hkk : gg = k := by cases hk2; rfl
    rcases hat with e | e
    · exact h.apart k hk (by rw [e, hkk])
    · have := (h.row0.lt k hk).2; omega
  · intro j hj hne ho
    exact (Below.heap_setCell w5 _ _ j hne).trans ((hgr.block j (by simp; omega) (fun e => ho e.symm)).trans (hbe.block j hj))
end Go.Proofs.YtjonhenllhnibaaGreatDoor
