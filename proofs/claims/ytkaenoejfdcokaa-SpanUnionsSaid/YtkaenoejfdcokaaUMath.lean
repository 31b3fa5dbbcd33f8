/- Rows of ends that rise and neither meet nor touch: they are told by the numbers that they cover; and what joined hands on is such a row. -/
import Derived.Test.YtkaenoejfdcokaaJoin
namespace Go.Proofs.Ytkaenoejfdcokaa

/-- A number is in one of the ends. -/
def cov (S : List E64) (x : Int) : Prop := ∃ s ∈ S, s.1.1 ≤ x ∧ x ≤ s.1.2
/-- Rising, with a gap between each two. -/
def Gaps (U : List E64) : Prop := U.Pairwise fun s t => s.1.2 + 1 < t.1.1
/-- Sorted by the first numbers. -/
def Rising (S : List E64) : Prop := S.Pairwise fun s t => s.1.1 ≤ t.1.1
theorem cov_nil (x : Int) : ¬ cov [] x := fun ⟨_, h, _⟩ => by cases h
theorem cov_cons {s : E64} {S : List E64} {x : Int} : cov (s :: S) x ↔ (s.1.1 ≤ x ∧ x ≤ s.1.2) ∨ cov S x := by
  constructor
  · rintro ⟨t, ht, h⟩
    rcases List.mem_cons.1 ht with rfl | ht
    · exact .inl h
    · exact .inr ⟨t, ht, h⟩
  · rintro (h | ⟨t, ht, h⟩)
    · exact ⟨s, by simp, h⟩
    · exact ⟨t, by simp [ht], h⟩
theorem cov_append {S T : List E64} {x : Int} : cov (S ++ T) x ↔ cov S x ∨ cov T x := by
  induction S with
  | nil => simp [cov_nil]
  | cons s S ih => rw [List.cons_append, cov_cons, cov_cons, ih, or_assoc]
theorem cov_perm {S T : List E64} (h : S.Perm T) (x : Int) : cov S x ↔ cov T x := by
  constructor
  · rintro ⟨s, hs, hx⟩; exact ⟨s, h.subset hs, hx⟩
  · rintro ⟨s, hs, hx⟩; exact ⟨s, h.symm.subset hs, hx⟩

theorem merge_spec (r : List E64) : ∀ nw : E64, Rising (nw :: r) → (∀ x, cov (mergeE nw r) x ↔ cov (nw :: r) x) ∧ Gaps (mergeE nw r) ∧ ∀ z ∈ mergeE nw r, nw.1.1 ≤ z.1.1 := by
  induction r with
  | nil =>
    intro nw _
    refine ⟨fun x => Iff.rfl, List.pairwise_singleton _ _, fun z hz => ?_⟩
    rw [List.mem_singleton.1 hz]
    exact Int.le_refl _
  | cons y r ih =>
    intro nw hs
    have hs' := List.pairwise_cons.1 hs
    have hy := hs'.1 y (by simp)
    have hr := List.pairwise_cons.1 hs'.2
    unfold mergeE
    by_cases h : y.1.1 ≤ nw.1.2 + 1
    · rw [if_pos h]
      have hj : Rising (join2 nw y :: r) := List.pairwise_cons.2 ⟨fun t ht => hs'.1 t (by simp [ht]), hr.2⟩
      obtain ⟨h1, h2, h3⟩ := ih (join2 nw y) hj
      refine ⟨fun x => ?_, h2, h3⟩
      rw [h1 x, cov_cons, cov_cons, cov_cons]
      have e1 : (join2 nw y).1.1 = nw.1.1 := rfl
      have e2 : (join2 nw y).1.2 = max nw.1.2 y.1.2 := rfl
      rw [e1, e2, ← or_assoc]
      have hk : (nw.1.1 ≤ x ∧ x ≤ max nw.1.2 y.1.2) ↔ ((nw.1.1 ≤ x ∧ x ≤ nw.1.2) ∨ (y.1.1 ≤ x ∧ x ≤ y.1.2)) := by omega
      rw [hk]
    · rw [if_neg h]
      obtain ⟨h1, h2, h3⟩ := ih y hs'.2
      refine ⟨fun x => ?_, List.pairwise_cons.2 ⟨fun z hz => ?_, h2⟩, fun z hz => ?_⟩
      · rw [cov_cons, h1 x, ← cov_cons]
      · have := h3 z hz; omega
      · rcases List.mem_cons.1 hz with rfl | hz
        · exact Int.le_refl _
        · have := h3 z hz; omega
theorem join_spec (S : List E64) (h : Rising S) : (∀ x, cov (joinE S) x ↔ cov S x) ∧ Gaps (joinE S) := by
  cases S with
  | nil => exact ⟨fun x => Iff.rfl, List.Pairwise.nil⟩
  | cons s r => exact ⟨(merge_spec r s h).1, (merge_spec r s h).2.1⟩

theorem gaps_head {u : E64} {U : List E64} (h : Gaps (u :: U)) {x : Int} : cov U x ↔ cov (u :: U) x ∧ u.1.2 + 1 < x := by
  obtain ⟨h1, _⟩ := List.pairwise_cons.1 h
  constructor
  · rintro ⟨t, ht, hx⟩
    exact ⟨⟨t, by simp [ht], hx⟩, by have := h1 t ht; omega⟩
  · rintro ⟨hc, hx⟩
    rcases cov_cons.1 hc with h' | h'
    · omega
    · exact h'
theorem gaps_unique : ∀ (U V : List E64), Gaps U → Gaps V → (∀ x, cov U x ↔ cov V x) → U = V
  | [], [], _, _, _ => rfl
  | [], v :: V, _, _, h => absurd ((h v.1.1).2 ⟨v, by simp, Int.le_refl _, v.2.2.1⟩) (cov_nil _)
  | u :: U, [], _, _, h => absurd ((h u.1.1).1 ⟨u, by simp, Int.le_refl _, u.2.2.1⟩) (cov_nil _)
  | u :: U, v :: V, hU, hV, h => by
    have lo : ∀ (p q : E64) (P Q : List E64), Gaps (q :: Q) → (∀ x, cov (p :: P) x → cov (q :: Q) x) → q.1.1 ≤ p.1.1 := by
      intro p q P Q hQ hh
      have := hh p.1.1 ⟨p, by simp, Int.le_refl _, p.2.2.1⟩
      obtain ⟨t, ht, h1, h2⟩ := this
      rcases List.mem_cons.1 ht with rfl | ht
      · exact h1
      · have := (List.pairwise_cons.1 hQ).1 t ht
        have := q.2.2.1
        omega
    have e1 : u.1.1 = v.1.1 := Int.le_antisymm (lo v u V U hU fun x hx => (h x).2 hx) (lo u v U V hV fun x hx => (h x).1 hx)
    have hi : ∀ (p q : E64) (P Q : List E64), Gaps (p :: P) → p.1.1 = q.1.1 → (∀ x, cov (q :: Q) x → cov (p :: P) x) → q.1.2 ≤ p.1.2 := by
      intro p q P Q hP he hh
      rcases (show p.1.2 < q.1.2 ∨ q.1.2 ≤ p.1.2 by omega) with hlt | hge
      · have := hh (p.1.2 + 1) ⟨q, by simp, by have := p.2.2.1; omega, by omega⟩
        obtain ⟨t, ht, h1, h2⟩ := this
        rcases List.mem_cons.1 ht with rfl | ht
        · omega
        · have := (List.pairwise_cons.1 hP).1 t ht
          omega
      · exact hge
    have e2 : u.1.2 = v.1.2 := Int.le_antisymm (hi v u V U hV e1.symm fun x hx => (h x).1 hx) (hi u v U V hU e1 fun x hx => (h x).2 hx)
    have e : u = v := Subtype.ext (Prod.ext e1 e2)
    subst e
    rw [gaps_unique U V (List.pairwise_cons.1 hU).2 (List.pairwise_cons.1 hV).2 (fun x => by rw [gaps_head hU, gaps_head hV, h x])]
/-- Ends that cover all numbers stand alone. -/
theorem gaps_whole {U : List E64} (h : Gaps U) {u : E64} (hu : u ∈ U) (hw : Whole u) : U = [u] := by
  obtain ⟨A, B, rfl⟩ := List.append_of_mem hu
  obtain ⟨_, h2, h3⟩ := List.pairwise_append.1 h
  obtain ⟨w1, w2⟩ := hw
  have hA : A = [] := by
    cases A with
    | nil => rfl
    | cons a A =>
      have := h3 a (by simp) u (by simp)
      have := a.2.1; have := a.2.2.1
      omega
  have hB : B = [] := by
    cases B with
    | nil => rfl
    | cons b B =>
      have := (List.pairwise_cons.1 h2).1 b (by simp)
      have := b.2.2.2; have := b.2.2.1
      omega
  subst hA hB
  rfl

/-- The numbers of spans that may be. -/
def covP (L : List (Int × Int)) (x : Int) : Prop := ∃ p ∈ L, p.1 ≤ x ∧ x ≤ p.1 + (p.2 - 1)
/-- A span's ends. -/
def endsP (p : Int × Int) : Int × Int := (p.1, p.1 + (p.2 - 1))
theorem covP_spans (zs : List E64) (x : Int) : covP (spanPairs zs) x ↔ cov zs x := by
  constructor
  · rintro ⟨p, hp, h1, h2⟩
    obtain ⟨z, hz, rfl⟩ := List.mem_map.1 hp
    simp only at h1 h2
    exact ⟨z, hz, h1, by omega⟩
  · rintro ⟨z, hz, h1, h2⟩
    exact ⟨_, List.mem_map.2 ⟨z, hz, rfl⟩, h1, by show x ≤ z.1.1 + (z.1.2 - z.1.1 + 1 - 1); omega⟩
end Go.Proofs.Ytkaenoejfdcokaa
