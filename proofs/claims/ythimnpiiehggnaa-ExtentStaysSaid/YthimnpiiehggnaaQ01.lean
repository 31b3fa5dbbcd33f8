/- Texts of this seat, one behind the other: EMath, EPMath, Mem. -/
import Derived.Test.YthimnpiiehggnaaRows
import Derived.WalkKit
import Derived.WalkSpells
import Derived.WalkLawsBesides
import Derived.BigQuiet
import Derived.Deep.QuietTactic
import Derived.RegionTactic
import Derived.ChangeAlike
import Derived.Lib.Hide
import Derived.Laws.IdiomStrings
import Derived.Laws.Rows
import Derived.Deep.Draws
import Derived.Deep.RegionHeld3
import Derived.Deep.DrawnRows
/- Runs of blocks, in plain lists: what as few as can be means, that there is one such list alone, joined ones, all blocks' ones, cut ones. Nothing of any function. -/
namespace Go.Proofs.Ythimnpiiehggnaa

/-- A run: its first block, how many, its state. -/
structure Rn where
  f : Int
  n : Int
  s : Int
deriving DecidableEq, Inhabited

/-- A block's state is told by a run. -/
def EIn (L : List Rn) (x t : Int) : Prop := ∃ r ∈ L, r.f ≤ x ∧ x < r.f + r.n ∧ r.s = t
/-- As few as can be, rising, behind a run that ends ahead of a, of state p. -/
def EC : Int → Int → List Rn → Prop
  | _, _, [] => True
  | a, p, r :: L => (a < r.f ∨ (a = r.f ∧ p ≠ r.s)) ∧ 1 ≤ r.n ∧ EC (r.f + r.n) r.s L
/-- A block's state: of the first run in which it is. -/
def eAt : List Rn → Int → Int
  | [], _ => 0
  | r :: L, x => if r.f ≤ x ∧ x < r.f + r.n then r.s else eAt L x
/-- A run may be, by itself. -/
def EOk (r : Rn) : Prop := 0 ≤ r.f ∧ 1 ≤ r.n ∧ r.f + r.n ≤ 576460752303423488 ∧ (r.s = 1 ∨ r.s = 2)
instance (r : Rn) : Decidable (EOk r) := by unfold EOk; infer_instance
/-- It may follow another one. -/
def EFol (r q : Rn) : Prop := r.f + r.n < q.f ∨ (r.f + r.n = q.f ∧ r.s ≠ q.s)
instance (r q : Rn) : Decidable (EFol r q) := by unfold EFol; infer_instance
/-- Runs may be. -/
def ERt (L : List Rn) : Prop := L.length ≤ 64 ∧ (∀ j, j < L.length → EOk (L.getD j default)) ∧ ∀ j, j < L.length → 0 < j → EFol (L.getD (j - 1) default) (L.getD j default)
instance (L : List Rn) : Decidable (ERt L) := by unfold ERt; infer_instance

theorem ein_nil {x t : Int} : ¬ EIn [] x t := fun ⟨r, h, _⟩ => by cases h
theorem ein_cons {r : Rn} {L : List Rn} {x t : Int} : EIn (r :: L) x t ↔ (r.f ≤ x ∧ x < r.f + r.n ∧ r.s = t) ∨ EIn L x t := by
  unfold EIn
  simp [List.mem_cons, or_and_right, exists_or]
theorem ein_append {A B : List Rn} {x t : Int} : EIn (A ++ B) x t ↔ EIn A x t ∨ EIn B x t := by
  unfold EIn
  simp only [List.mem_append, or_and_right, exists_or]
theorem ein_perm {A B : List Rn} (h : A.Perm B) {x t : Int} : EIn A x t ↔ EIn B x t := by
  unfold EIn
  constructor
  · rintro ⟨r, h1, h2⟩; exact ⟨r, h.mem_iff.1 h1, h2⟩
  · rintro ⟨r, h1, h2⟩; exact ⟨r, h.mem_iff.2 h1, h2⟩
theorem ec_lo {L : List Rn} : ∀ {a p : Int}, EC a p L → ∀ r ∈ L, a ≤ r.f := by
  induction L with
  | nil => intro a p _ r h; cases h
  | cons q L ih =>
    intro a p h r hr
    obtain ⟨h1, h2, h3⟩ := h
    rcases List.mem_cons.1 hr with rfl | hr
    · omega
    · have := ih h3 r hr; omega
theorem ec_pos {L : List Rn} : ∀ {a p : Int}, EC a p L → ∀ r ∈ L, 1 ≤ r.n := by
  induction L with
  | nil => intro a p _ r h; cases h
  | cons q L ih =>
    intro a p h r hr
    obtain ⟨h1, h2, h3⟩ := h
    rcases List.mem_cons.1 hr with rfl | hr
    · exact h2
    · exact ih h3 r hr
theorem ec_in_lo {L : List Rn} {a p x t : Int} (h : EC a p L) (hi : EIn L x t) : a ≤ x := by
  obtain ⟨r, h1, h2, _⟩ := hi
  have := ec_lo h r h1
  omega
/-- What is told right behind the run ahead is another state. -/
theorem ec_first {L : List Rn} {a p t : Int} (h : EC a p L) (hi : EIn L a t) : t ≠ p := by
  cases L with
  | nil => exact absurd hi ein_nil
  | cons q L =>
    obtain ⟨h1, h2, h3⟩ := h
    rcases ein_cons.1 hi with ⟨e1, e2, e3⟩ | hi
    · rcases h1 with h1 | ⟨h1, h4⟩
      · omega
      · rw [← e3]; exact fun e => h4 e.symm
    · have := ec_in_lo h3 hi
      omega
theorem ec_one {r : Rn} {L : List Rn} (h : EC (r.f + r.n) r.s L) (_hn : 1 ≤ r.n) {x t : Int} (hx : x < r.f + r.n) (hi : EIn (r :: L) x t) : r.f ≤ x ∧ r.s = t := by
  rcases ein_cons.1 hi with ⟨e1, e2, e3⟩ | hi
  · exact ⟨e1, e3⟩
  · have := ec_in_lo h hi
    omega
/-- There is one such list alone. -/
theorem ec_uniq {L : List Rn} : ∀ {M : List Rn} {a p b q : Int}, EC a p L → EC b q M → (∀ x t, EIn L x t ↔ EIn M x t) → L = M := by
  induction L with
  | nil =>
    intro M a p b q _ hM h
    cases M with
    | nil => rfl
    | cons m M =>
      exact absurd ((h m.f m.s).2 (ein_cons.2 (.inl ⟨Int.le_refl _, by have := hM.2.1; omega, rfl⟩))) ein_nil
  | cons r L ih =>
    intro M a p b q hL hM h
    cases M with
    | nil =>
      exact absurd ((h r.f r.s).1 (ein_cons.2 (.inl ⟨Int.le_refl _, by have := hL.2.1; omega, rfl⟩))) ein_nil
    | cons m M =>
      obtain ⟨l1, l2, l3⟩ := hL
      obtain ⟨m1, m2, m3⟩ := hM
      have i1 : EIn (m :: M) r.f r.s := (h r.f r.s).1 (ein_cons.2 (.inl ⟨Int.le_refl _, by omega, rfl⟩))
      have i2 : EIn (r :: L) m.f m.s := (h m.f m.s).2 (ein_cons.2 (.inl ⟨Int.le_refl _, by omega, rfl⟩))
      have e1 : m.f ≤ r.f := by
        rcases ein_cons.1 i1 with k | k
        · exact k.1
        · have := ec_in_lo m3 k; omega
      have e2 : r.f ≤ m.f := by
        rcases ein_cons.1 i2 with k | k
        · exact k.1
        · have := ec_in_lo l3 k; omega
      have ef : r.f = m.f := by omega
      have es : m.s = r.s := (ec_one m3 m2 (by omega) i1).2
      have en : r.n = m.n := by
        rcases Int.lt_trichotomy r.n m.n with k | k | k
        · exfalso
          have i3 : EIn (r :: L) (r.f + r.n) m.s := (h _ _).2 (ein_cons.2 (.inl ⟨by omega, by omega, rfl⟩))
          rcases ein_cons.1 i3 with j | j
          · omega
          · exact ec_first l3 j es
        · exact k
        · exfalso
          have i3 : EIn (m :: M) (m.f + m.n) r.s := (h _ _).1 (ein_cons.2 (.inl ⟨by omega, by omega, rfl⟩))
          rcases ein_cons.1 i3 with j | j
          · omega
          · exact ec_first m3 j es.symm
      have er : r = m := by
        cases r; cases m; simp only at ef en es; rw [ef, en, es]
      subst er
      rw [ih l3 m3 (fun x t => ?_)]
      constructor
      · intro k
        rcases ein_cons.1 ((h x t).1 (ein_cons.2 (.inr k))) with j | j
        · have := ec_in_lo l3 k; omega
        · exact j
      · intro k
        rcases ein_cons.1 ((h x t).2 (ein_cons.2 (.inr k))) with j | j
        · have := ec_in_lo m3 k; omega
        · exact j
theorem ec_at {L : List Rn} : ∀ {a p x t : Int}, EC a p L → EIn L x t → eAt L x = t := by
  induction L with
  | nil => intro a p x t _ h; exact absurd h ein_nil
  | cons r L ih =>
    intro a p x t h hi
    obtain ⟨h1, h2, h3⟩ := h
    unfold eAt
    by_cases hx : r.f ≤ x ∧ x < r.f + r.n
    · rw [if_pos hx]
      exact (ec_one h3 h2 hx.2 hi).2
    · rw [if_neg hx]
      rcases ein_cons.1 hi with k | k
      · exact absurd ⟨k.1, k.2.1⟩ hx
      · exact ih h3 k
theorem eat_in {L : List Rn} {x : Int} (h : eAt L x ≠ 0) : EIn L x (eAt L x) := by
  induction L with
  | nil => exact absurd rfl h
  | cons r L ih =>
    unfold eAt at h ⊢
    by_cases hx : r.f ≤ x ∧ x < r.f + r.n
    · rw [if_pos hx]
      exact ein_cons.2 (.inl ⟨hx.1, hx.2, rfl⟩)
    · rw [if_neg hx] at h ⊢
      exact ein_cons.2 (.inr (ih h))
theorem ein_at {L : List Rn} {a p : Int} (h : EC a p L) (h0 : ∀ r ∈ L, r.s ≠ 0) (x t : Int) : EIn L x t ↔ eAt L x = t ∧ t ≠ 0 := by
  constructor
  · intro hi
    refine ⟨ec_at h hi, ?_⟩
    obtain ⟨r, h1, h2, h3, rfl⟩ := hi
    exact h0 r h1
  · rintro ⟨rfl, h1⟩
    exact eat_in h1

/-- The end and the state behind a list. -/
def eEnd : Int → Int → List Rn → Int × Int
  | a, p, [] => (a, p)
  | _, _, r :: L => eEnd (r.f + r.n) r.s L
theorem eend_snoc (L : List Rn) (r : Rn) : ∀ a p, eEnd a p (L ++ [r]) = (r.f + r.n, r.s) := by
  induction L with
  | nil => intro a p; rfl
  | cons q L ih => intro a p; exact ih _ _
theorem ec_append (L M : List Rn) : ∀ a p, EC a p (L ++ M) ↔ EC a p L ∧ EC (eEnd a p L).1 (eEnd a p L).2 M := by
  induction L with
  | nil => intro a p; simp [EC, eEnd]
  | cons r L ih =>
    intro a p
    simp only [List.cons_append, EC, eEnd, ih]
    constructor
    · rintro ⟨h1, h2, h3, h4⟩; exact ⟨⟨h1, h2, h3⟩, h4⟩
    · rintro ⟨⟨h1, h2, h3⟩, h4⟩; exact ⟨h1, h2, h3, h4⟩
/-- Lists that may be are as few as can be. -/
theorem ec_of {L : List Rn} : ∀ {a p : Int}, (∀ r ∈ L, 1 ≤ r.n) → (∀ r, L.head? = some r → a < r.f ∨ (a = r.f ∧ p ≠ r.s)) → (∀ j, j < L.length → 0 < j → EFol (L.getD (j - 1) default) (L.getD j default)) → EC a p L := by
  induction L with
  | nil => intro a p _ _ _; trivial
  | cons r L ih =>
    intro a p h1 h2 h3
    refine ⟨h2 r rfl, h1 r (List.mem_cons_self ..), ih (fun q hq => h1 q (List.mem_cons_of_mem _ hq)) ?_ ?_⟩
    · intro q hq
      cases L with
      | nil => cases hq
      | cons q' L =>
        cases hq
        have := h3 1 (by simp) (by omega)
        simpa [EFol] using this
    · intro j hj h0
      have := h3 (j + 1) (by simpa using hj) (by omega)
      obtain ⟨i, rfl⟩ : ∃ i, j = i + 1 := ⟨j - 1, by omega⟩
      simpa using this
theorem egetD_mem {L : List Rn} {j : Nat} (h : j < L.length) : L.getD j default ∈ L := by
  rw [List.getD, List.getElem?_eq_getElem h]; exact List.getElem_mem _
theorem eat_of_mem {L : List Rn} {x : Rn} (h : x ∈ L) : ∃ j, j < L.length ∧ L.getD j default = x := by
  obtain ⟨j, hj, rfl⟩ := List.getElem_of_mem h
  exact ⟨j, hj, by simp [List.getD, hj]⟩
theorem ERt.ok {L : List Rn} (h : ERt L) : ∀ r ∈ L, EOk r := fun r hr => by
  obtain ⟨j, hj, rfl⟩ := eat_of_mem hr
  exact h.2.1 j hj
theorem ERt.ec {L : List Rn} (h : ERt L) : EC 0 3 L :=
  ec_of (fun r hr => (h.ok r hr).2.1) (fun r hr => by
    have hm : r ∈ L := List.mem_of_mem_head? hr
    have := h.ok r hm
    obtain ⟨h1, h2, h3, h4⟩ := this
    omega) h.2.2
theorem ec_fol {L : List Rn} : ∀ {a p : Int}, EC a p L → ∀ j, j < L.length → 0 < j → EFol (L.getD (j - 1) default) (L.getD j default) := by
  induction L with
  | nil => intro a p _ j hj; simp at hj
  | cons r L ih =>
    intro a p h j hj h0
    obtain ⟨h1, h2, h3⟩ := h
    obtain ⟨i, rfl⟩ : ∃ i, j = i + 1 := ⟨j - 1, by omega⟩
    rw [Nat.add_sub_cancel, List.getD_cons_succ]
    cases i with
    | zero =>
      cases L with
      | nil => simp at hj
      | cons q L => simpa [EFol] using h3.1
    | succ i =>
      rw [List.getD_cons_succ]
      have := ih h3 (i + 1) (by simpa using hj) (by omega)
      rwa [Nat.add_sub_cancel] at this
theorem ert_of {L : List Rn} {a p : Int} (h0 : L.length ≤ 64) (h1 : ∀ r ∈ L, EOk r) (h2 : EC a p L) : ERt L :=
  ⟨h0, fun _ hj => h1 _ (egetD_mem hj), ec_fol h2⟩

/-- Those that touch in one state made one. -/
def emerge : Rn → List Rn → List Rn
  | x, [] => [x]
  | x, y :: r => if y.f = x.f + x.n ∧ y.s = x.s then emerge ⟨x.f, x.n + y.n, x.s⟩ r else x :: emerge y r
theorem emerge_yes {x y : Rn} {r : List Rn} (h : y.f = x.f + x.n ∧ y.s = x.s) : emerge x (y :: r) = emerge ⟨x.f, x.n + y.n, x.s⟩ r := by rw [emerge, if_pos h]
theorem emerge_no {x y : Rn} {r : List Rn} (h : ¬ (y.f = x.f + x.n ∧ y.s = x.s)) : emerge x (y :: r) = x :: emerge y r := by rw [emerge, if_neg h]
def ejoin : List Rn → List Rn
  | [] => []
  | x :: r => emerge x r
/-- One behind the other. -/
def ERise : Int → List Rn → Prop
  | _, [] => True
  | a, r :: L => a ≤ r.f ∧ 1 ≤ r.n ∧ ERise (r.f + r.n) L
theorem erise_lo {L : List Rn} : ∀ {a : Int}, ERise a L → ∀ r ∈ L, a ≤ r.f ∧ 1 ≤ r.n := by
  induction L with
  | nil => intro a _ r h; cases h
  | cons q L ih =>
    intro a h r hr
    obtain ⟨h1, h2, h3⟩ := h
    rcases List.mem_cons.1 hr with rfl | hr
    · exact ⟨h1, h2⟩
    · have := ih h3 r hr; omega
theorem emerge_ec (L : List Rn) : ∀ (x : Rn) (a p : Int), (a < x.f ∨ (a = x.f ∧ p ≠ x.s)) → 1 ≤ x.n → ERise (x.f + x.n) L → EC a p (emerge x L) := by
  induction L with
  | nil => intro x a p h1 h2 _; exact ⟨h1, h2, trivial⟩
  | cons y L ih =>
    intro x a p h1 h2 h3
    obtain ⟨r1, r2, r3⟩ := h3
    unfold emerge
    by_cases hc : y.f = x.f + x.n ∧ y.s = x.s
    · rw [if_pos hc]
      exact ih _ a p h1 (by show 1 ≤ x.n + y.n; omega) (by show ERise (x.f + (x.n + y.n)) L; rw [show x.f + (x.n + y.n) = y.f + y.n by omega]; exact r3)
    · rw [if_neg hc]
      refine ⟨h1, h2, ih y _ _ ?_ r2 r3⟩
      by_cases he : x.f + x.n = y.f
      · exact .inr ⟨he, fun e => hc ⟨he.symm, e.symm⟩⟩
      · exact .inl (by omega)
theorem emerge_in (L : List Rn) : ∀ (x : Rn), 1 ≤ x.n → ERise (x.f + x.n) L → ∀ y t, EIn (emerge x L) y t ↔ EIn (x :: L) y t := by
  induction L with
  | nil => intro x _ _ y t; exact Iff.rfl
  | cons q L ih =>
    intro x h2 h3 y t
    obtain ⟨r1, r2, r3⟩ := h3
    unfold emerge
    by_cases hc : q.f = x.f + x.n ∧ q.s = x.s
    · rw [if_pos hc, ih _ (by show 1 ≤ x.n + q.n; omega) (by show ERise (x.f + (x.n + q.n)) L; rw [show x.f + (x.n + q.n) = q.f + q.n by omega]; exact r3), ein_cons, ein_cons, ein_cons]
      obtain ⟨c1, c2⟩ := hc
      constructor
      · rintro (⟨k1, k2, k3⟩ | k)
        · simp only at k1 k2 k3
          by_cases hy : y < x.f + x.n
          · exact .inl ⟨k1, hy, k3⟩
          · exact .inr (.inl ⟨by omega, by omega, by omega⟩)
        · exact .inr (.inr k)
      · rintro (⟨k1, k2, k3⟩ | ⟨k1, k2, k3⟩ | k)
        · exact .inl ⟨k1, by show y < x.f + (x.n + q.n); omega, k3⟩
        · exact .inl ⟨by show x.f ≤ y; omega, by show y < x.f + (x.n + q.n); omega, by show x.s = t; omega⟩
        · exact .inr k
    · rw [if_neg hc, ein_cons, ih q r2 r3, ← ein_cons]
theorem ejoin_ec {L : List Rn} {a p : Int} (h : ERise a L) (hp : ∀ r ∈ L, p ≠ r.s) : EC a p (ejoin L) := by
  cases L with
  | nil => trivial
  | cons x L =>
    obtain ⟨h1, h2, h3⟩ := h
    refine emerge_ec L x a p ?_ h2 h3
    have := hp x (List.mem_cons_self ..)
    by_cases e : a = x.f
    · exact .inr ⟨e, this⟩
    · exact .inl (by omega)
theorem ejoin_in {L : List Rn} {a : Int} (h : ERise a L) (y t : Int) : EIn (ejoin L) y t ↔ EIn L y t := by
  cases L with
  | nil => exact Iff.rfl
  | cons x L => exact emerge_in L x h.2.1 h.2.2 y t
theorem emerge_len (L : List Rn) : ∀ x, (emerge x L).length ≤ L.length + 1 := by
  induction L with
  | nil => intro x; simp [emerge]
  | cons y r ih =>
    intro x
    unfold emerge
    split
    · have := ih ⟨x.f, x.n + y.n, x.s⟩; simp; omega
    · have := ih y; simp; omega
theorem ejoin_len (L : List Rn) : (ejoin L).length ≤ L.length := by
  cases L with
  | nil => exact Nat.le_refl _
  | cons x r => exact emerge_len r x

/-- The runs of all blocks from one on, holes too. -/
def eevery : Int → List Rn → List Rn
  | a, [] => if a < 576460752303423488 then [⟨a, 576460752303423488 - a, 0⟩] else []
  | a, r :: L => (if a < r.f then [⟨a, r.f - a, 0⟩] else []) ++ r :: eevery (r.f + r.n) L
theorem eevery_ec (L : List Rn) : ∀ (a p : Int), p ≠ 0 → EC a p L → (∀ r ∈ L, r.s ≠ 0) → EC a p (eevery a L) := by
  induction L with
  | nil =>
    intro a p hp _ _
    unfold eevery
    split
    · exact ⟨.inr ⟨rfl, hp⟩, by show 1 ≤ 576460752303423488 - a; omega, trivial⟩
    · trivial
  | cons r L ih =>
    intro a p hp h h0
    obtain ⟨h1, h2, h3⟩ := h
    have hs := h0 r (List.mem_cons_self ..)
    have hr := ih (r.f + r.n) r.s hs h3 (fun q hq => h0 q (List.mem_cons_of_mem _ hq))
    unfold eevery
    by_cases hc : a < r.f
    · rw [if_pos hc]
      refine ⟨.inr ⟨rfl, hp⟩, by show 1 ≤ r.f - a; omega, .inr ⟨by show a + (r.f - a) = r.f; omega, fun e => hs e.symm⟩, h2, hr⟩
    · rw [if_neg hc]
      exact ⟨h1, h2, hr⟩
theorem eevery_in (L : List Rn) : ∀ (a p : Int), EC a p L → (∀ r ∈ L, r.f + r.n ≤ 576460752303423488) → ∀ x t, EIn (eevery a L) x t ↔ a ≤ x ∧ x < 576460752303423488 ∧ t = eAt L x := by
  induction L with
  | nil =>
    intro a p _ _ x t
    unfold eevery
    split
    · rw [ein_cons]
      simp only [eAt]
      constructor
      · rintro (⟨k1, k2, k3⟩ | k)
        · exact ⟨k1, by omega, k3.symm⟩
        · exact absurd k ein_nil
      · rintro ⟨k1, k2, k3⟩
        exact .inl ⟨k1, by omega, k3.symm⟩
    · constructor
      · intro k; exact absurd k ein_nil
      · intro k; omega
  | cons r L ih =>
    intro a p h hb x t
    obtain ⟨h1, h2, h3⟩ := h
    have hrb := hb r (List.mem_cons_self ..)
    have hr := ih (r.f + r.n) r.s h3 (fun q hq => hb q (List.mem_cons_of_mem _ hq)) x t
    have hz : x < r.f → eAt L x = 0 := fun hx => by
      by_cases e : eAt L x = 0
      · exact e
      · have := ec_in_lo h3 (eat_in e); omega
    unfold eevery
    rw [ein_append, ein_cons, hr]
    simp only [eAt]
    by_cases hc : a < r.f
    · rw [if_pos hc, ein_cons]
      constructor
      · rintro ((⟨k1, k2, k3⟩ | k) | ⟨k1, k2, k3⟩ | ⟨k1, k2, k3⟩)
        · simp only at k1 k2 k3
          rw [if_neg (by omega)]
          exact ⟨by omega, by omega, by rw [hz (by omega)]; exact k3.symm⟩
        · exact absurd k ein_nil
        · rw [if_pos ⟨k1, k2⟩]; exact ⟨by omega, by omega, k3.symm⟩
        · rw [if_neg (by omega)]; exact ⟨by omega, k2, k3⟩
      · rintro ⟨k1, k2, k3⟩
        by_cases e : x < r.f
        · rw [if_neg (by omega), hz e] at k3
          exact .inl (.inl ⟨k1, by show x < a + (r.f - a); omega, k3.symm⟩)
        · by_cases e2 : x < r.f + r.n
          · rw [if_pos ⟨by omega, e2⟩] at k3; exact .inr (.inl ⟨by omega, e2, k3.symm⟩)
          · rw [if_neg (by omega)] at k3; exact .inr (.inr ⟨by omega, k2, k3⟩)
    · rw [if_neg hc]
      constructor
      · rintro (k | ⟨k1, k2, k3⟩ | ⟨k1, k2, k3⟩)
        · exact absurd k ein_nil
        · rw [if_pos ⟨k1, k2⟩]; exact ⟨by omega, by omega, k3.symm⟩
        · rw [if_neg (by omega)]; exact ⟨by omega, k2, k3⟩
      · rintro ⟨k1, k2, k3⟩
        by_cases e2 : x < r.f + r.n
        · rw [if_pos ⟨by omega, e2⟩] at k3; exact .inr (.inl ⟨by omega, e2, k3.symm⟩)
        · rw [if_neg (by omega)] at k3; exact .inr (.inr ⟨by omega, k2, k3⟩)
theorem eevery_len (L : List Rn) : ∀ a, (eevery a L).length ≤ 2 * L.length + 1 := by
  induction L with
  | nil => intro a; unfold eevery; split <;> simp
  | cons r L ih =>
    intro a
    have := ih (r.f + r.n)
    unfold eevery
    split <;> simp <;> omega
theorem eevery_ok (L : List Rn) : ∀ (a p : Int), 0 ≤ a → EC a p L → (∀ r ∈ L, 0 ≤ r.f ∧ r.f + r.n ≤ 576460752303423488) → ∀ r ∈ eevery a L, 0 ≤ r.f ∧ 1 ≤ r.n ∧ r.f + r.n ≤ 576460752303423488 := by
  induction L with
  | nil =>
    intro a p h0 _ _ r hr
    unfold eevery at hr
    split at hr
    · rw [List.mem_singleton] at hr
      subst hr
      exact ⟨h0, by show 1 ≤ 576460752303423488 - a; omega, by show a + (576460752303423488 - a) ≤ _; omega⟩
    · cases hr
  | cons q L ih =>
    intro a p h0 h hb r hr
    obtain ⟨h1, h2, h3⟩ := h
    have hq := hb q (List.mem_cons_self ..)
    unfold eevery at hr
    rcases List.mem_append.1 hr with k | k
    · split at k
      · rw [List.mem_singleton] at k
        subst k
        exact ⟨h0, by show 1 ≤ q.f - a; omega, by show a + (q.f - a) ≤ _; omega⟩
      · cases k
    · rcases List.mem_cons.1 k with rfl | k
      · exact ⟨hq.1, h2, hq.2⟩
      · exact ih (q.f + q.n) q.s (by omega) h3 (fun x hx => hb x (List.mem_cons_of_mem _ hx)) r k

/-- What a run has in common with a span. -/
def ecut1 (f n : Int) (r : Rn) : Option Rn := if max r.f f ≤ min (r.f + (r.n - 1)) (f + (n - 1)) then some ⟨max r.f f, min (r.f + (r.n - 1)) (f + (n - 1)) - max r.f f + 1, r.s⟩ else none
def ecut (f n : Int) (L : List Rn) : List Rn := L.filterMap (ecut1 f n)
theorem ecut_ec (f n : Int) (L : List Rn) : ∀ (a p b q : Int), EC a p L → (b < a ∨ (b = a ∧ q = p)) → EC b q (ecut f n L) := by
  induction L with
  | nil => intro a p b q _ _; trivial
  | cons r L ih =>
    intro a p b q h hb
    obtain ⟨h1, h2, h3⟩ := h
    by_cases hc : max r.f f ≤ min (r.f + (r.n - 1)) (f + (n - 1))
    · have e : ecut f n (r :: L) = ⟨max r.f f, min (r.f + (r.n - 1)) (f + (n - 1)) - max r.f f + 1, r.s⟩ :: ecut f n L := by
        unfold ecut
        rw [List.filterMap_cons]
        simp only [ecut1, if_pos hc]
      rw [e]
      refine ⟨?_, ?_, ih _ _ _ _ h3 ?_⟩
      · show b < max r.f f ∨ (b = max r.f f ∧ q ≠ r.s)
        by_cases e : b < max r.f f
        · exact .inl e
        · refine .inr ⟨by omega, ?_⟩
          rcases hb with hb | ⟨rfl, rfl⟩
          · omega
          · rcases h1 with h1 | h1
            · omega
            · exact h1.2
      · show 1 ≤ min (r.f + (r.n - 1)) (f + (n - 1)) - max r.f f + 1
        omega
      · show max r.f f + (min (r.f + (r.n - 1)) (f + (n - 1)) - max r.f f + 1) < r.f + r.n ∨ _
        by_cases e : max r.f f + (min (r.f + (r.n - 1)) (f + (n - 1)) - max r.f f + 1) < r.f + r.n
        · exact .inl e
        · exact .inr ⟨by show max r.f f + (min (r.f + (r.n - 1)) (f + (n - 1)) - max r.f f + 1) = r.f + r.n; omega, rfl⟩
    · have e : ecut f n (r :: L) = ecut f n L := by
        unfold ecut
        rw [List.filterMap_cons]
        simp only [ecut1, if_neg hc]
      rw [e]
      exact ih _ _ _ _ h3 (.inl (by omega))
theorem ecut_in (f n : Int) (L : List Rn) (x t : Int) : EIn (ecut f n L) x t ↔ EIn L x t ∧ f ≤ x ∧ x < f + n := by
  unfold EIn ecut
  constructor
  · rintro ⟨r, hr, h1, h2, h3⟩
    obtain ⟨q, hq, he⟩ := List.mem_filterMap.1 hr
    unfold ecut1 at he
    split at he
    · cases he
      simp only at h1 h2 h3
      exact ⟨⟨q, hq, by omega, by omega, h3⟩, by omega, by omega⟩
    · cases he
  · rintro ⟨⟨q, hq, h1, h2, h3⟩, h4, h5⟩
    have hc : max q.f f ≤ min (q.f + (q.n - 1)) (f + (n - 1)) := by omega
    refine ⟨⟨max q.f f, min (q.f + (q.n - 1)) (f + (n - 1)) - max q.f f + 1, q.s⟩, List.mem_filterMap.2 ⟨q, hq, by unfold ecut1; rw [if_pos hc]⟩, ?_, ?_, h3⟩
    · show max q.f f ≤ x; omega
    · show x < max q.f f + (min (q.f + (q.n - 1)) (f + (n - 1)) - max q.f f + 1); omega
theorem efilter_ec (g : Rn → Bool) (L : List Rn) : ∀ (a p b q : Int), EC a p L → (b < a ∨ (b = a ∧ q = p)) → EC b q (L.filter g) := by
  induction L with
  | nil => intro a p b q _ _; trivial
  | cons r L ih =>
    intro a p b q h hb
    obtain ⟨h1, h2, h3⟩ := h
    by_cases hc : g r = true
    · rw [List.filter_cons_of_pos hc]
      refine ⟨?_, h2, ih _ _ _ _ h3 (.inr ⟨rfl, rfl⟩)⟩
      rcases hb with hb | ⟨rfl, rfl⟩
      · exact .inl (by omega)
      · exact h1
    · rw [List.filter_cons_of_neg hc]
      exact ih _ _ _ _ h3 (.inl (by omega))
theorem efilter_in (L : List Rn) (x t : Int) : EIn (L.filter fun r => decide (r.s ≠ 0)) x t ↔ EIn L x t ∧ t ≠ 0 := by
  unfold EIn
  constructor
  · rintro ⟨r, hr, h1, h2, rfl⟩
    rw [List.mem_filter] at hr
    exact ⟨⟨r, hr.1, h1, h2, rfl⟩, by simpa using hr.2⟩
  · rintro ⟨⟨r, hr, h1, h2, rfl⟩, h3⟩
    exact ⟨r, List.mem_filter.2 ⟨hr, by simpa using h3⟩, h1, h2, rfl⟩
end Go.Proofs.Ythimnpiiehggnaa
/- What is left of runs beside a span, the span itself, and what they make joined, in plain lists. Nothing of any function. -/
namespace Go.Proofs.Ythimnpiiehggnaa

/-- What is left of a run beside a span. -/
def epc (f n : Int) (r : Rn) : List Rn :=
  if min (r.f + (r.n - 1)) (f + (n - 1)) < max r.f f then [r]
  else (if r.f < max r.f f then [⟨r.f, max r.f f - r.f, r.s⟩] else []) ++ (if min (r.f + (r.n - 1)) (f + (n - 1)) < r.f + (r.n - 1) then [⟨min (r.f + (r.n - 1)) (f + (n - 1)) + 1, r.f + (r.n - 1) - min (r.f + (r.n - 1)) (f + (n - 1)), r.s⟩] else [])
def epieces (L : List Rn) (f n s : Int) : List Rn := (if s = 0 then [] else [⟨f, n, s⟩]) ++ L.flatMap (epc f n)
theorem epc_mem {f n : Int} {r q : Rn} (hn : 1 ≤ n) (hr : 1 ≤ r.n) (h : q ∈ epc f n r) : r.f ≤ q.f ∧ 1 ≤ q.n ∧ q.f + q.n ≤ r.f + r.n ∧ q.s = r.s ∧ (q.f + q.n ≤ f ∨ f + n ≤ q.f) := by
  unfold epc at h
  generalize hB : min (r.f + (r.n - 1)) (f + (n - 1)) = B at h
  generalize hA : max r.f f = A at h
  split at h
  · rw [List.mem_singleton] at h
    subst h
    omega
  · rcases List.mem_append.1 h with h | h
    · split at h
      · rw [List.mem_singleton] at h
        subst h
        refine ⟨?_, ?_, ?_, rfl, ?_⟩ <;> simp only <;> omega
      · cases h
    · split at h
      · rw [List.mem_singleton] at h
        subst h
        refine ⟨?_, ?_, ?_, rfl, ?_⟩ <;> simp only <;> omega
      · cases h
theorem epc_in {f n : Int} {r : Rn} (hn : 1 ≤ n) (hr : 1 ≤ r.n) (x t : Int) : EIn (epc f n r) x t ↔ (r.f ≤ x ∧ x < r.f + r.n ∧ r.s = t) ∧ ¬ (f ≤ x ∧ x < f + n) := by
  constructor
  · rintro ⟨q, hq, h1, h2, h3⟩
    have := epc_mem hn hr hq
    omega
  · rintro ⟨⟨h1, h2, h3⟩, h4⟩
    unfold epc
    split
    · exact ⟨r, by simp, h1, h2, h3⟩
    · rw [ein_append]
      by_cases h5 : x < f
      · left
        rw [if_pos (by omega)]
        exact ⟨_, List.mem_singleton.2 rfl, h1, by simp only; omega, h3⟩
      · right
        rw [if_pos (by omega)]
        exact ⟨_, List.mem_singleton.2 rfl, by simp only; omega, by simp only; omega, h3⟩
theorem epc_len (f n : Int) (r : Rn) : (epc f n r).length ≤ 2 := by
  unfold epc
  split
  · simp
  · split <;> split <;> simp
/-- Two runs have no block in common. -/
def EDj (r q : Rn) : Prop := r.f + r.n ≤ q.f ∨ q.f + q.n ≤ r.f
theorem epc_apart (f n : Int) (r : Rn) : (epc f n r).Pairwise EDj := by
  unfold epc
  split
  · simp
  · split <;> split <;> simp [EDj]
    omega
theorem ec_apart {L : List Rn} : ∀ {a p : Int}, EC a p L → L.Pairwise (fun r q => r.f + r.n ≤ q.f) := by
  induction L with
  | nil => intro a p _; exact List.Pairwise.nil
  | cons r L ih =>
    intro a p h
    obtain ⟨h1, h2, h3⟩ := h
    exact List.Pairwise.cons (fun q hq => ec_lo h3 q hq) (ih h3)
theorem epieces_apart {L : List Rn} {f n s a p : Int} (hL : EC a p L) (hn : 1 ≤ n) : (epieces L f n s).Pairwise EDj := by
  have hp := ec_pos hL
  unfold epieces
  rw [List.pairwise_append]
  refine ⟨by split <;> simp, ?_, ?_⟩
  · rw [List.pairwise_flatMap]
    refine ⟨fun r _ => epc_apart f n r, ?_⟩
    refine List.Pairwise.imp_of_mem ?_ (ec_apart hL)
    intro r q hr hq h x hx y hy
    have := epc_mem hn (hp r hr) hx
    have := epc_mem hn (hp q hq) hy
    unfold EDj
    omega
  · intro x hx y hy
    split at hx
    · cases hx
    · rw [List.mem_singleton] at hx
      subst hx
      obtain ⟨r, hr, hy⟩ := List.mem_flatMap.1 hy
      have := epc_mem hn (hp r hr) hy
      unfold EDj
      simp only
      omega
theorem epieces_in {L : List Rn} {f n s a p : Int} (hL : EC a p L) (hn : 1 ≤ n) (x t : Int) : EIn (epieces L f n s) x t ↔ (f ≤ x ∧ x < f + n ∧ t = s ∧ s ≠ 0) ∨ (¬ (f ≤ x ∧ x < f + n) ∧ EIn L x t) := by
  have hp := ec_pos hL
  unfold epieces
  rw [ein_append]
  have h1 : EIn (if s = 0 then [] else [⟨f, n, s⟩]) x t ↔ (f ≤ x ∧ x < f + n ∧ t = s ∧ s ≠ 0) := by
    split
    · constructor
      · intro h; exact absurd h ein_nil
      · intro h; omega
    · rw [ein_cons]
      constructor
      · rintro (⟨k1, k2, k3⟩ | k)
        · exact ⟨k1, k2, k3.symm, by assumption⟩
        · exact absurd k ein_nil
      · rintro ⟨k1, k2, k3, _⟩
        exact .inl ⟨k1, k2, k3.symm⟩
  have h2 : EIn (L.flatMap (epc f n)) x t ↔ ¬ (f ≤ x ∧ x < f + n) ∧ EIn L x t := by
    constructor
    · rintro ⟨q, hq, h⟩
      obtain ⟨r, hr, hq⟩ := List.mem_flatMap.1 hq
      obtain ⟨k1, k2⟩ := (epc_in hn (hp r hr) x t).1 ⟨q, hq, h⟩
      exact ⟨k2, r, hr, k1⟩
    · rintro ⟨k2, r, hr, k1⟩
      obtain ⟨q, hq, h⟩ := (epc_in hn (hp r hr) x t).2 ⟨k1, k2⟩
      exact ⟨q, List.mem_flatMap.2 ⟨r, hr, hq⟩, h⟩
  rw [h1, h2]
theorem epieces_len (L : List Rn) (f n s : Int) : (epieces L f n s).length ≤ 1 + 2 * L.length := by
  unfold epieces
  rw [List.length_append]
  have h1 : (if s = 0 then [] else [(⟨f, n, s⟩ : Rn)]).length ≤ 1 := by split <;> simp
  have h2 : (L.flatMap (epc f n)).length ≤ 2 * L.length := by
    clear h1
    induction L with
    | nil => simp
    | cons r L ih =>
      have := epc_len f n r
      rw [List.flatMap_cons, List.length_append, List.length_cons]
      omega
  omega
theorem epieces_ok {L : List Rn} {f n s : Int} (h : ∀ r ∈ L, 0 ≤ r.f ∧ 1 ≤ r.n ∧ r.f + r.n ≤ 576460752303423488) (h0 : 0 ≤ f) (hn : 1 ≤ n) (h1 : f + n ≤ 576460752303423488) : ∀ q ∈ epieces L f n s, 0 ≤ q.f ∧ 1 ≤ q.n ∧ q.f + q.n ≤ 576460752303423488 := by
  intro q hq
  unfold epieces at hq
  rcases List.mem_append.1 hq with hq | hq
  · split at hq
    · cases hq
    · rw [List.mem_singleton] at hq
      subst hq
      exact ⟨h0, hn, h1⟩
  · obtain ⟨r, hr, hq⟩ := List.mem_flatMap.1 hq
    have := h r hr
    have := epc_mem hn (by omega) hq
    omega
theorem erise_of {S : List Rn} : ∀ {a : Int}, (∀ r ∈ S, a ≤ r.f ∧ 1 ≤ r.n) → S.Pairwise (fun a b => a.f ≤ b.f) → S.Pairwise EDj → ERise a S := by
  induction S with
  | nil => intro a _ _ _; trivial
  | cons r S ih =>
    intro a h1 h2 h3
    rw [List.pairwise_cons] at h2 h3
    have hr := h1 r (List.mem_cons_self ..)
    refine ⟨hr.1, hr.2, ih (fun q hq => ?_) h2.2 h3.2⟩
    have q1 := h1 q (List.mem_cons_of_mem _ hq)
    have q2 := h2.1 q hq
    have q3 := h3.1 q hq
    unfold EDj at q3
    omega
theorem edj_symm {r q : Rn} (h : EDj r q) : EDj q r := h.symm

/-- A block's state, when a span is put in one. -/
def enew (L : List Rn) (f n s x : Int) : Int := if f ≤ x ∧ x < f + n then s else eAt L x
/-- What Put makes. -/
def EPuts (L : List Rn) (f n s : Int) (J : List Rn) : Prop := EC 0 3 J ∧ ∀ x t, EIn J x t ↔ t = enew L f n s x ∧ t ≠ 0
theorem EPuts.one {L : List Rn} {f n s : Int} {J K : List Rn} (h : EPuts L f n s J) (k : EPuts L f n s K) : J = K :=
  ec_uniq h.1 k.1 (fun x t => (h.2 x t).trans (k.2 x t).symm)
theorem enew_in {L : List Rn} {f n s a p : Int} (hL : EC a p L) (h0 : ∀ r ∈ L, r.s ≠ 0) (x t : Int) : ((f ≤ x ∧ x < f + n ∧ t = s ∧ s ≠ 0) ∨ (¬ (f ≤ x ∧ x < f + n) ∧ EIn L x t)) ↔ (t = enew L f n s x ∧ t ≠ 0) := by
  unfold enew
  rw [ein_at hL h0]
  constructor
  · rintro (⟨k1, k2, rfl, k4⟩ | ⟨k1, rfl, k3⟩)
    · rw [if_pos ⟨k1, k2⟩]; exact ⟨rfl, k4⟩
    · rw [if_neg k1]; exact ⟨rfl, k3⟩
  · split
    · rename_i hx
      rintro ⟨rfl, k⟩
      exact .inl ⟨hx.1, hx.2, rfl, k⟩
    · rename_i hx
      rintro ⟨rfl, k⟩
      exact .inr ⟨hx, rfl, k⟩
/-- The pieces, put in order and joined. -/
theorem eputs_sorted {L S : List Rn} {f n s : Int} (hL : ERt L) (h0 : 0 ≤ f) (hn : 1 ≤ n) (h1 : f + n ≤ 576460752303423488) (h3 : s ≠ 3) (hp : S.Perm (epieces L f n s)) (hs : S.Pairwise (fun a b => a.f ≤ b.f)) :
    EPuts L f n s (ejoin S) ∧ ∀ r ∈ S, 0 ≤ r.f ∧ 1 ≤ r.n ∧ r.f + r.n ≤ 576460752303423488 := by
  have hok : ∀ r ∈ S, 0 ≤ r.f ∧ 1 ≤ r.n ∧ r.f + r.n ≤ 576460752303423488 := fun r hr => epieces_ok (fun q hq => by have := hL.ok q hq; exact ⟨this.1, this.2.1, this.2.2.1⟩) h0 hn h1 r (hp.mem_iff.1 hr)
  have hr : ERise 0 S := erise_of (fun r hr => ⟨(hok r hr).1, (hok r hr).2.1⟩) hs (hp.symm.pairwise (epieces_apart hL.ec hn) (fun h => edj_symm h))
  have hz : ∀ r ∈ L, r.s ≠ 0 := fun r hr => by have := (hL.ok r hr).2.2.2; omega
  have hin : ∀ x t, EIn S x t ↔ t = enew L f n s x ∧ t ≠ 0 := fun x t => by
    rw [ein_perm hp, epieces_in hL.ec hn, enew_in hL.ec hz]
  refine ⟨⟨ejoin_ec hr (fun r hr2 => ?_), fun x t => ?_⟩, hok⟩
  · have h9 := (hin r.f r.s).1 ⟨r, hr2, Int.le_refl _, by have := (hok r hr2).2.1; omega, rfl⟩
    unfold enew at h9
    split at h9
    · omega
    · by_cases e : eAt L r.f = 0
      · omega
      · obtain ⟨q, hq, _, _, h5⟩ := eat_in e
        have := (hL.ok q hq).2.2.2
        omega
  · rw [ejoin_in hr, hin]
/-- What was put may be, if there are few enough. -/
theorem EPuts.ok {L J : List Rn} {f n s : Int} (h : EPuts L f n s J) (hL : ERt L) (h0 : 0 ≤ f) (h1 : f + n ≤ 576460752303423488) (hs : s = 0 ∨ s = 1 ∨ s = 2) : ∀ r ∈ J, EOk r := by
  intro r hr
  have hn := ec_pos h.1 r hr
  have k : ∀ x t, EIn J x t → (0 ≤ x ∧ x < 576460752303423488) ∧ (t = 1 ∨ t = 2) := fun x t hx => by
    obtain ⟨e, h9⟩ := (h.2 x t).1 hx
    unfold enew at e
    split at e
    · omega
    · rw [e] at h9
      obtain ⟨q, hq, q1, q2, q3⟩ := eat_in h9
      have := hL.ok q hq
      unfold EOk at this
      omega
  have a := k r.f r.s ⟨r, hr, Int.le_refl _, by omega, rfl⟩
  have b := k (r.f + r.n - 1) r.s ⟨r, hr, by omega, by omega, rfl⟩
  unfold EOk
  omega
end Go.Proofs.Ythimnpiiehggnaa
/- Words for memory: cells, blocks that are known whole, and what stays as it was. Nothing of any function. -/
namespace Go.Proofs.Ythimnpiiehggnaa
open Go.RowKit

theorem size_mk (s : List UInt8) : (⟨s.toArray⟩ : ByteArray).size = s.length := by simp [ByteArray.size]
theorem get_mk (s : List UInt8) (k : Nat) (h' : k < (⟨s.toArray⟩ : ByteArray).size) : (⟨s.toArray⟩ : ByteArray)[k]'h' = s[k]'(by rw [size_mk] at h'; exact h') := by
  simp [ByteArray.getElem_eq_getElem_data]
theorem bcell {W w1 : World} (hb : Below W.heap.size W w1) : (∀ b o, b < W.heap.size → w1.cell? ⟨b, o, none⟩ = W.cell? ⟨b, o, none⟩) ∧ (∀ b o, b < W.heap.size → w1.frozen? ⟨b, o, none⟩ = W.frozen? ⟨b, o, none⟩) :=
  ⟨fun b o h => hb.cell (p := ⟨b, o, none⟩) h, fun b o h => hb.frozen (p := ⟨b, o, none⟩) h⟩

theorem ba {w w1 : World} (h : Below w.heap.size w w1) (o : Obj) : Below w.heap.size w (w1.alloc o) := h.alloc h.size o
theorem bt {w w1 w2 : World} (h : Below w.heap.size w w1) (h2 : Below w1.heap.size w1 w2) : Below w.heap.size w w2 := h.trans (h2.mono h.size)
theorem bs {w w1 : World} (h : Below w.heap.size w w1) {b o : Nat} (hp : w.heap.size ≤ b) (v : Value) : Below w.heap.size w (w1.setCell ⟨b, o, none⟩ v) := h.setCell (p := ⟨b, o, none⟩) hp v

/-- A cell that can be read and written. -/
def At (W : World) (b o : Nat) (v : Value) : Prop := W.cell? ⟨b, o, none⟩ = some v ∧ W.frozen? ⟨b, o, none⟩ = false
theorem At.lt {W : World} {b o : Nat} {v : Value} (h : At W b o v) : b < W.heap.size := World.block_lt_of_cell? _ _ h.1
theorem At.later {W w1 : World} {b o : Nat} {v : Value} (h : At W b o v) (hb : Below W.heap.size W w1) : At w1 b o v :=
  ⟨cell_later hb h.1, (hb.frozen (p := ⟨b, o, none⟩) h.lt).trans h.2⟩
theorem At.alloc {W : World} {b o : Nat} {v : Value} (h : At W b o v) (ob : Obj) : At (W.alloc ob) b o v := h.later ((Below.refl _ _).alloc (Nat.le_refl _) ob)
theorem At.drew {W : World} {b o : Nat} {v : Value} (h : At W b o v) : At W.drew b o v := h
theorem At.drewN {W : World} {b o : Nat} {v : Value} (h : At W b o v) (n : Nat) : At (W.drewN n) b o v := h
theorem At.new (W : World) (x : Array Value) (t : TypeId) {o : Nat} {v : Value} (h : x[o]? = some v) : At (W.alloc (.cells x t)) W.heap.size o v := by
  constructor
  · simp [h]
  · go_simp

/-- A block that is known whole. -/
def Blk (w : World) (g : Nat) (t : TypeId) (cs : Array Value) : Prop := w.heap[g]? = some (.cells cs t (0, 0))
section
variable {w w' : World} {g : Nat} {t : TypeId} {cs : Array Value}
theorem Blk.lt (h : Blk w g t cs) : g < w.heap.size := by
  rcases Nat.lt_or_ge g w.heap.size with hlt | hge
  · exact hlt
  · unfold Blk at h; rw [Array.getElem?_eq_none hge] at h; cases h
theorem Blk.cell (h : Blk w g t cs) (i : Nat) : w.cell? ⟨g, i, none⟩ = cs[i]? := cell_of_row w g i cs t (0, 0) h
theorem Blk.frozen (h : Blk w g t cs) (i : Nat) : w.frozen? ⟨g, i, none⟩ = false := by
  unfold Blk at h
  simp [World.frozen?, h]
theorem Blk.at_ (h : Blk w g t cs) {i : Nat} {v : Value} (hv : cs[i]? = some v) : At w g i v := ⟨(h.cell i).trans hv, h.frozen i⟩
theorem Blk.new (w : World) (t : TypeId) (cs : Array Value) : Blk (w.alloc (.cells cs t)) w.heap.size t cs := heap_alloc_new w _
theorem Blk.newAt {w : World} {g : Nat} (h : w.heap.size = g) (t : TypeId) (cs : Array Value) : Blk (w.alloc (.cells cs t)) g t cs := by subst h; exact Blk.new w t cs
theorem Blk.drew (h : Blk w g t cs) : Blk w.drew g t cs := h
theorem Blk.drewN (h : Blk w g t cs) (n : Nat) : Blk (w.drewN n) g t cs := h
theorem Blk.alloc (h : Blk w g t cs) (o : Obj) : Blk (w.alloc o) g t cs := (Below.heap_alloc w o g h.lt).trans h
theorem Blk.set_ (h : Blk w g t cs) (i : Nat) (u : Value) : Blk (w.setCell ⟨g, i, none⟩ u) g t (cs.setIfInBounds i u) := by
  unfold Blk at h ⊢
  simp [World.setCell, Array.getElem?_modify, h]
theorem Blk.far (h : Blk w g t cs) {p : Addr} (hp : g ≠ p.block) (u : Value) : Blk (w.setCell p u) g t cs := (Below.heap_setCell w p u g hp).trans h
theorem Blk.below (h : Blk w g t cs) (hb : Below w.heap.size w w') : Blk w' g t cs := (hb.block g h.lt).trans h
theorem Blk.grown {row : Option Nat} (h : Blk w g t cs) (hb : w.grownBy w' row) (hg : some g ≠ row) : Blk w' g t cs := (hb.block g h.lt hg).trans h
end

/-- But for the blocks p and g what was there is as it was. -/
structure Off (p g : Nat) (w w' : World) : Prop where
  os : w'.os = w.os
  tape : w'.tape = w.tape
  output : w'.output = w.output
  size : w.heap.size ≤ w'.heap.size
  block : ∀ k, k < w.heap.size → k ≠ p → k ≠ g → w'.heap[k]? = w.heap[k]?
section
variable {p g : Nat} {a b w w' : World}
theorem Off.refl (p g : Nat) (w : World) : Off p g w w := ⟨rfl, rfl, rfl, Nat.le_refl _, fun _ _ _ _ => rfl⟩
theorem Off.trans (h : Off p g a b) (k : Off p g b w) : Off p g a w :=
  ⟨k.os.trans h.os, k.tape.trans h.tape, k.output.trans h.output, Nat.le_trans h.size k.size, fun i hi hp hg => (k.block i (Nat.lt_of_lt_of_le hi h.size) hp hg).trans (h.block i hi hp hg)⟩
theorem Off.drew (h : Off p g a w) : Off p g a w.drew := ⟨h.os, h.tape, h.output, h.size, h.block⟩
theorem Off.drewN (h : Off p g a w) (n : Nat) : Off p g a (w.drewN n) := ⟨h.os, h.tape, h.output, h.size, h.block⟩
theorem Off.alloc (h : Off p g a w) (o : Obj) : Off p g a (w.alloc o) :=
  h.trans ⟨rfl, rfl, rfl, by simp, fun k hk _ _ => Below.heap_alloc w o k hk⟩
theorem Off.setCell (h : Off p g a w) {q : Addr} (hq : q.block = p ∨ q.block = g) (v : Value) : Off p g a (w.setCell q v) :=
  h.trans ⟨rfl, rfl, rfl, by simp [World.setCell], fun k _ hp hg => Below.heap_setCell w q v k (by
    rintro rfl
    rcases hq with hq | hq
    · exact hp hq
    · exact hg hq)⟩
theorem Off.below_mid (h : Off p g a w) (hb : Below w.heap.size w w') : Off p g a w' :=
  h.trans ⟨hb.os, hb.tape, hb.output, hb.size, fun k hk _ _ => hb.block k hk⟩
theorem Off.below {B : Nat} (h : Off p g a w) (hp : B ≤ p) (hg : B ≤ g) (hB : B ≤ a.heap.size) : Below B a w :=
  ⟨h.os, h.tape, h.output, h.size, fun k hk => h.block k (by omega) (by omega) (by omega)⟩
theorem Off.blk (h : Off p g a w) {k : Nat} {t : TypeId} {cs : Array Value} (hk : Blk a k t cs) (hp : k ≠ p) (hg : k ≠ g) : Blk w k t cs := (h.block k hk.lt hp hg).trans hk
theorem Off.at_ (h : Off p g a w) {k o : Nat} {v : Value} (hk : At a k o v) (hp : k ≠ p) (hg : k ≠ g) : At w k o v :=
  ⟨(World.cell?_of_block (a := ⟨k, o, none⟩) (h.block k hk.lt hp hg)).trans hk.1, (World.frozen?_of_block (a := ⟨k, o, none⟩) (h.block k hk.lt hp hg)).trans hk.2⟩
end
end Go.Proofs.Ythimnpiiehggnaa
