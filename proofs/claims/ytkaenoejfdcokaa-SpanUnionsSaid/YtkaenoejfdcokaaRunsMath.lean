/- The reference's runs, in plain numbers: a run grown by as many passes as there are spans is the one of the ends with gaps that holds the span. -/
import Derived.Test.YtkaenoejfdcokaaUnionAny
namespace Go.Proofs.Ytkaenoejfdcokaa

def endOf (p : Int × Int) : Int := p.1 + (p.2 - 1)
def InR (r p : Int × Int) : Prop := r.1 ≤ p.1 ∧ endOf p ≤ r.2
instance (r p : Int × Int) : Decidable (InR r p) := by unfold InR; infer_instance
def JoinsR (r p : Int × Int) : Prop := p.1 ≤ r.2 + 1 ∧ r.1 ≤ endOf p + 1
instance (r p : Int × Int) : Decidable (JoinsR r p) := by unfold JoinsR; infer_instance
def stepR (r p : Int × Int) : Int × Int := if JoinsR r p then (min r.1 p.1, max r.2 (endOf p)) else r
def passR (L : List (Int × Int)) (r : Int × Int) : Int × Int := L.foldl stepR r
def growR (L : List (Int × Int)) : Nat → Int × Int → Int × Int
  | 0, r => r
  | k + 1, r => passR L (growR L k r)
/-- One run in another. -/
def Sub (r q : Int × Int) : Prop := q.1 ≤ r.1 ∧ r.2 ≤ q.2
theorem Sub.refl (r : Int × Int) : Sub r r := ⟨Int.le_refl _, Int.le_refl _⟩
theorem Sub.trans {a b c : Int × Int} (h : Sub a b) (k : Sub b c) : Sub a c := ⟨Int.le_trans k.1 h.1, Int.le_trans h.2 k.2⟩
theorem Sub.antisymm {a b : Int × Int} (h : Sub a b) (k : Sub b a) : a = b := Prod.ext (Int.le_antisymm k.1 h.1) (Int.le_antisymm h.2 k.2)
theorem InR.sub {r q p : Int × Int} (h : InR r p) (k : Sub r q) : InR q p := ⟨Int.le_trans k.1 h.1, Int.le_trans h.2 k.2⟩
theorem step_grows (r p : Int × Int) : Sub r (stepR r p) := by
  unfold stepR Sub
  split
  · constructor
    · show min r.1 p.1 ≤ r.1; omega
    · show r.2 ≤ max r.2 (endOf p); omega
  · exact ⟨Int.le_refl _, Int.le_refl _⟩
theorem fold_grows (L : List (Int × Int)) : ∀ r, Sub r (L.foldl stepR r) := by
  induction L with
  | nil => exact Sub.refl
  | cons p L ih => exact fun r => (step_grows r p).trans (ih _)
theorem pass_grows (L : List (Int × Int)) (r : Int × Int) : Sub r (passR L r) := fold_grows L r
/-- A pass that turns nothing: whatever joins is in. -/
theorem pass_closed {L : List (Int × Int)} {r : Int × Int} (h : L.foldl stepR r = r) : ∀ p ∈ L, JoinsR r p → InR r p := by
  induction L with
  | nil => intro p hp; cases hp
  | cons q L ih =>
    have h1 : stepR r q = r := Sub.antisymm (by have := fold_grows L (stepR r q); rw [List.foldl_cons] at h; rw [h] at this; exact this) (step_grows r q)
    rw [List.foldl_cons, h1] at h
    intro p hp hj
    rcases List.mem_cons.1 hp with rfl | hp
    · unfold stepR at h1
      rw [if_pos hj] at h1
      have e1 := congrArg Prod.fst h1
      have e2 := congrArg Prod.snd h1
      simp only at e1 e2
      exact ⟨by omega, by omega⟩
    · exact ih h p hp hj
/-- A pass that turns something takes a span in that was not. -/
theorem pass_takes {L : List (Int × Int)} {r : Int × Int} (h : L.foldl stepR r ≠ r) : ∃ p ∈ L, ¬ InR r p ∧ InR (L.foldl stepR r) p := by
  induction L generalizing r with
  | nil => exact absurd rfl h
  | cons q L ih =>
    rw [List.foldl_cons] at h ⊢
    by_cases hs : stepR r q = r
    · rw [hs] at h ⊢
      obtain ⟨p, hp, h1, h2⟩ := ih h
      exact ⟨p, by simp [hp], h1, h2⟩
    · refine ⟨q, by simp, fun hi => hs ?_, ?_⟩
      · unfold stepR
        split
        · obtain ⟨a, b⟩ := hi
          exact Prod.ext (show min r.1 q.1 = r.1 by omega) (show max r.2 (endOf q) = r.2 by omega)
        · rfl
      · have hj : JoinsR r q := by
          rcases Decidable.em (JoinsR r q) with hj | hj
          · exact hj
          · exact absurd (show stepR r q = r by unfold stepR; rw [if_neg hj]) hs
        have : InR (stepR r q) q := by
          unfold stepR
          rw [if_pos hj]
          exact ⟨show min r.1 q.1 ≤ q.1 by omega, show endOf q ≤ max r.2 (endOf q) by omega⟩
        exact this.sub (fold_grows L _)
def cntR (L : List (Int × Int)) (r : Int × Int) : Nat := L.countP fun p => decide (InR r p)
theorem count_lt {L : List (Int × Int)} {f g : Int × Int → Bool} (hm : ∀ p, f p = true → g p = true) (hx : ∃ p ∈ L, f p = false ∧ g p = true) : L.countP f < L.countP g := by
  induction L with
  | nil => obtain ⟨p, hp, _⟩ := hx; cases hp
  | cons q L ih =>
    rw [List.countP_cons, List.countP_cons]
    have hle : L.countP f ≤ L.countP g := List.countP_mono_left (fun p _ => hm p)
    obtain ⟨p, hp, h1, h2⟩ := hx
    rcases List.mem_cons.1 hp with rfl | hp
    · rw [h1, h2]; simp; omega
    · have := ih ⟨p, hp, h1, h2⟩
      have h3 := hm q
      cases hf : f q <;> cases hg : g q
      · simp; exact this
      · simp; omega
      · rw [hf, hg] at h3; cases h3 rfl
      · simp; exact this
theorem cnt_step {L : List (Int × Int)} {r : Int × Int} (h : passR L r ≠ r) : cntR L r < cntR L (passR L r) := by
  obtain ⟨p, hp, h1, h2⟩ := pass_takes h
  refine count_lt (fun q hq => ?_) ⟨p, hp, decide_eq_false h1, decide_eq_true h2⟩
  simp only [decide_eq_true_eq] at hq ⊢
  exact hq.sub (pass_grows L r)
theorem grow_cnt (L : List (Int × Int)) (r : Int × Int) (h1 : 1 ≤ cntR L r) : ∀ k, passR L (growR L k r) = growR L k r ∨ k + 1 ≤ cntR L (growR L k r) := by
  intro k
  induction k with
  | zero => exact .inr h1
  | succ k ih =>
    show passR L (passR L (growR L k r)) = passR L (growR L k r) ∨ _
    rcases Decidable.em (passR L (growR L k r) = growR L k r) with h | h
    · left; rw [h]; exact h
    · right
      rcases ih with h' | h'
      · exact absurd h' h
      · have := cnt_step h
        show k + 1 + 1 ≤ cntR L (passR L (growR L k r))
        omega
theorem grow_closed (L : List (Int × Int)) (r : Int × Int) (h1 : 1 ≤ cntR L r) : passR L (growR L L.length r) = growR L L.length r := by
  rcases grow_cnt L r h1 L.length with h | h
  · exact h
  · have : cntR L (growR L L.length r) ≤ L.length := List.countP_le_length
    omega
theorem grow_grows (L : List (Int × Int)) (r : Int × Int) : ∀ k, Sub r (growR L k r) := by
  intro k
  induction k with
  | zero => exact Sub.refl r
  | succ k ih => exact ih.trans (pass_grows L _)

/-- Two of the ends with gaps that meet or touch are one. -/
theorem gaps_touch {zs : List E64} (hG : Gaps zs) {y z : E64} (hy : y ∈ zs) (hz : z ∈ zs) (h1 : y.1.1 ≤ z.1.2 + 1) (h2 : z.1.1 ≤ y.1.2 + 1) : y = z := by
  induction zs with
  | nil => cases hy
  | cons u zs ih =>
    obtain ⟨g1, g2⟩ := List.pairwise_cons.1 hG
    rcases List.mem_cons.1 hy with ey | hy'
    · rcases List.mem_cons.1 hz with ez | hz'
      · rw [ey, ez]
      · have := g1 z hz'; subst ey; omega
    · rcases List.mem_cons.1 hz with ez | hz'
      · have := g1 y hy'; subst ez; omega
      · exact ih g2 hy' hz'
/-- Each span lies in one of the ends. -/
theorem span_in {zs : List E64} {L : List (Int × Int)} (hG : Gaps zs) (hc : ∀ x, cov zs x ↔ covP L x) (hok : ∀ p ∈ L, OkP p) {p : Int × Int} (hp : p ∈ L) : ∃ z ∈ zs, InR z.1 p := by
  obtain ⟨h0, h1, h2⟩ := hok p hp
  obtain ⟨z, hz, z1, z2⟩ := (hc p.1).2 ⟨p, hp, Int.le_refl _, by omega⟩
  refine ⟨z, hz, z1, ?_⟩
  rcases (show endOf p ≤ z.1.2 ∨ z.1.2 < endOf p by omega) with h | h
  · exact h
  · obtain ⟨y, hy, y1, y2⟩ := (hc (z.1.2 + 1)).2 ⟨p, hp, by omega, by unfold endOf at h; omega⟩
    have := gaps_touch hG hz hy (by have := z.2.2.1; omega) (by omega)
    subst this
    omega
theorem step_in {zs : List E64} {L : List (Int × Int)} (hG : Gaps zs) (hc : ∀ x, cov zs x ↔ covP L x) (hok : ∀ p ∈ L, OkP p) {z : E64} (hz : z ∈ zs) {r p : Int × Int} (hr : Sub r z.1) (hne : r.1 ≤ r.2) (hp : p ∈ L) : Sub (stepR r p) z.1 ∧ (stepR r p).1 ≤ (stepR r p).2 := by
  unfold stepR
  split
  · rename_i hj
    obtain ⟨y, hy, y1, y2⟩ := span_in hG hc hok hp
    obtain ⟨r1, r2⟩ := hr
    obtain ⟨j1, j2⟩ := hj
    obtain ⟨h0, h1, h2⟩ := hok p hp
    have he : p.1 ≤ endOf p := by unfold endOf; omega
    have := gaps_touch hG hy hz (by omega) (by omega)
    subst this
    exact ⟨⟨show y.1.1 ≤ min r.1 p.1 by omega, show max r.2 (endOf p) ≤ y.1.2 by omega⟩, show min r.1 p.1 ≤ max r.2 (endOf p) by omega⟩
  · exact ⟨hr, hne⟩
theorem fold_in {zs : List E64} {L M : List (Int × Int)} (hG : Gaps zs) (hc : ∀ x, cov zs x ↔ covP L x) (hok : ∀ p ∈ L, OkP p) {z : E64} (hz : z ∈ zs) (hM : ∀ p ∈ M, p ∈ L) : ∀ r, Sub r z.1 → r.1 ≤ r.2 → Sub (M.foldl stepR r) z.1 ∧ (M.foldl stepR r).1 ≤ (M.foldl stepR r).2 := by
  induction M with
  | nil => exact fun r h k => ⟨h, k⟩
  | cons p M ih =>
    intro r h k
    obtain ⟨a, b⟩ := step_in hG hc hok hz h k (hM p (by simp))
    exact ih (fun q hq => hM q (by simp [hq])) _ a b
theorem grow_in {zs : List E64} {L : List (Int × Int)} (hG : Gaps zs) (hc : ∀ x, cov zs x ↔ covP L x) (hok : ∀ p ∈ L, OkP p) {z : E64} (hz : z ∈ zs) {r : Int × Int} (h : Sub r z.1) (k : r.1 ≤ r.2) : ∀ n, Sub (growR L n r) z.1 ∧ (growR L n r).1 ≤ (growR L n r).2 := by
  intro n
  induction n with
  | zero => exact ⟨h, k⟩
  | succ n ih => exact fold_in hG hc hok hz (fun _ hp => hp) _ ih.1 ih.2
theorem grow_is {zs : List E64} {L : List (Int × Int)} (hG : Gaps zs) (hc : ∀ x, cov zs x ↔ covP L x) (hok : ∀ p ∈ L, OkP p) {p : Int × Int} (hp : p ∈ L) : ∃ z ∈ zs, growR L L.length (endsP p) = z.1 ∧ InR z.1 p := by
  obtain ⟨z, hz, hin⟩ := span_in hG hc hok hp
  refine ⟨z, hz, ?_, hin⟩
  obtain ⟨h0, h1, h2⟩ := hok p hp
  have hs : Sub (endsP p) z.1 := ⟨hin.1, hin.2⟩
  have hne : (endsP p).1 ≤ (endsP p).2 := by show p.1 ≤ p.1 + (p.2 - 1); omega
  obtain ⟨g1, g2⟩ := grow_in hG hc hok hz hs hne L.length
  have hcl := pass_closed (grow_closed L (endsP p) (List.countP_pos_iff.2 ⟨p, hp, by simp only [decide_eq_true_eq]; exact ⟨Int.le_refl _, Int.le_refl _⟩⟩))
  refine Sub.antisymm g1 ⟨?_, ?_⟩
  · rcases (show (growR L L.length (endsP p)).1 ≤ z.1.1 ∨ z.1.1 < (growR L L.length (endsP p)).1 by omega) with h | h
    · exact h
    · obtain ⟨g1a, g1b⟩ := g1
      obtain ⟨q, hq, q1, q2⟩ := (hc ((growR L L.length (endsP p)).1 - 1)).1 ⟨z, hz, by omega, by omega⟩
      have := hcl q hq ⟨by omega, by unfold endOf; omega⟩
      have := this.1
      omega
  · rcases (show z.1.2 ≤ (growR L L.length (endsP p)).2 ∨ (growR L L.length (endsP p)).2 < z.1.2 by omega) with h | h
    · exact h
    · obtain ⟨g1a, g1b⟩ := g1
      obtain ⟨q, hq, q1, q2⟩ := (hc ((growR L L.length (endsP p)).2 + 1)).1 ⟨z, hz, by omega, by omega⟩
      have := hcl q hq ⟨by omega, by unfold endOf; omega⟩
      have := this.2
      unfold endOf at this
      omega
end Go.Proofs.Ytkaenoejfdcokaa
