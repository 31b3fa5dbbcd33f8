/- Texts of this seat, one behind the other: ESMath. -/
import Derived.Test.YthimnpiiehggnaaQ01
import Derived.Test.YthimnpiiehggnaaQ12
/- The reference's places and states, in plain lists: they tell each block's state, as few as can be; so the code's runs are the reference's. -/
namespace Go.Proofs.Ythimnpiiehggnaa

/-- The places where a state may change. -/
def epl (b : Int) (p : List Int) (L : List Rn) : List Int := L.foldl (fun p r => emore (emore p r.f b) (r.f + r.n) b) p
def eplaces (L : List Rn) (f n a b : Int) : List Int := epl b (emore (emore [a] f b) (f + n) b) L
theorem epl_rise (b : Int) (L : List Rn) : ∀ p : List Int, p.Pairwise (· < ·) → (epl b p L).Pairwise (· < ·) := by
  induction L with
  | nil => intro p h; exact h
  | cons r L ih => intro p h; exact ih _ (emore_rise (emore_rise h _ _) _ _)
theorem epl_mem (b : Int) (L : List Rn) (x : Int) : ∀ p : List Int, p.Pairwise (· < ·) → (x ∈ epl b p L ↔ x ∈ p ∨ (x < b ∧ ∃ r ∈ L, x = r.f ∨ x = r.f + r.n)) := by
  induction L with
  | nil => intro p _; simp [epl]
  | cons r L ih =>
    intro p h
    have e : epl b p (r :: L) = epl b (emore (emore p r.f b) (r.f + r.n) b) L := rfl
    rw [e, ih _ (emore_rise (emore_rise h _ _) _ _), emore_mem (emore_rise h _ _), emore_mem h]
    constructor
    · rintro ((⟨h1, h2⟩ | ⟨h1, h2⟩ | h1) | ⟨h1, q, hq, h2⟩)
      · exact .inr ⟨by omega, r, List.mem_cons_self .., .inr h1⟩
      · exact .inr ⟨by omega, r, List.mem_cons_self .., .inl h1⟩
      · exact .inl h1
      · exact .inr ⟨h1, q, List.mem_cons_of_mem _ hq, h2⟩
    · rintro (h1 | ⟨h1, q, hq, h2⟩)
      · exact .inl (.inr (.inr h1))
      · rcases List.mem_cons.1 hq with rfl | hq
        · rcases h2 with h2 | h2
          · exact .inl (.inr (.inl ⟨h2, by omega⟩))
          · exact .inl (.inl ⟨h2, by omega⟩)
        · exact .inr ⟨h1, q, hq, h2⟩
theorem epl_len (b : Int) (L : List Rn) : ∀ p : List Int, p.Pairwise (· < ·) → (epl b p L).length ≤ p.length + 2 * L.length := by
  induction L with
  | nil => intro p _; simp [epl]
  | cons r L ih =>
    intro p h
    have e : epl b p (r :: L) = epl b (emore (emore p r.f b) (r.f + r.n) b) L := rfl
    have h1 := ih _ (emore_rise (emore_rise h r.f b) (r.f + r.n) b)
    have h2 := emore_len (emore_rise h r.f b) (r.f + r.n) b
    have h3 := emore_len h r.f b
    rw [e, List.length_cons]
    omega
theorem one_rise (a : Int) : ([a] : List Int).Pairwise (· < ·) := by simp
theorem eplaces_rise (L : List Rn) (f n a b : Int) : (eplaces L f n a b).Pairwise (· < ·) := epl_rise b L _ (emore_rise (emore_rise (one_rise a) _ _) _ _)
theorem eplaces_mem (L : List Rn) (f n a b x : Int) : x ∈ eplaces L f n a b ↔ x = a ∨ (x < b ∧ (x = f ∨ x = f + n ∨ ∃ r ∈ L, x = r.f ∨ x = r.f + r.n)) := by
  unfold eplaces
  rw [epl_mem b L x _ (emore_rise (emore_rise (one_rise a) _ _) _ _), emore_mem (emore_rise (one_rise a) _ _), emore_mem (one_rise a)]
  simp only [List.mem_singleton]
  constructor
  · rintro ((⟨h1, h2⟩ | ⟨h1, h2⟩ | h1) | ⟨h1, h2⟩)
    · exact .inr ⟨by omega, .inr (.inl h1)⟩
    · exact .inr ⟨by omega, .inl h1⟩
    · exact .inl h1
    · exact .inr ⟨h1, .inr (.inr h2)⟩
  · rintro (h1 | ⟨h1, h2 | h2 | h2⟩)
    · exact .inl (.inr (.inr h1))
    · exact .inl (.inr (.inl ⟨h2, by omega⟩))
    · exact .inl (.inl ⟨h2, by omega⟩)
    · exact .inr ⟨h1, h2⟩
theorem eplaces_len (L : List Rn) (f n a b : Int) : (eplaces L f n a b).length ≤ 3 + 2 * L.length := by
  have h1 := epl_len b L (emore (emore [a] f b) (f + n) b) (emore_rise (emore_rise (one_rise a) _ _) _ _)
  have h2 := emore_len (emore_rise (one_rise a) f b) (f + n) b
  have h3 := emore_len (one_rise a) f b
  simp only [List.length_singleton] at h3
  unfold eplaces
  omega

/-- The runs from one place to the next. -/
def estep (g : Int → Int) (a b : Int) : List Rn → List Int → List Rn
  | out, [] => out
  | out, p :: rest => estep g a b (if p < a then out else ewith out p (rest.headD b) (g p)) rest
/-- They tell each block's state up to a place. -/
def EGd (g : Int → Int) (a p : Int) (out : List Rn) : Prop := EC (a - 1) 0 out ∧ ∀ x t, EIn out x t ↔ a ≤ x ∧ x < p ∧ t = g x
theorem EGd.ends {g : Int → Int} {a p : Int} {out : List Rn} (h : EGd g a p out) : ∀ r ∈ out, a ≤ r.f ∧ 1 ≤ r.n ∧ r.f + r.n ≤ p := by
  intro r hr
  have h1 := ec_pos h.1 r hr
  have h2 := (h.2 r.f r.s).1 ⟨r, hr, Int.le_refl _, by omega, rfl⟩
  have h3 := (h.2 (r.f + r.n - 1) r.s).1 ⟨r, hr, by omega, by omega, rfl⟩
  omega
theorem ewith_snoc (I : List Rn) (r : Rn) (a b t : Int) : ewith (I ++ [r]) a b t = if r.s = t ∧ r.f + r.n = a then I ++ [⟨r.f, b - r.f, r.s⟩] else I ++ [r] ++ [⟨a, b - a, t⟩] := by
  have e1 : (I ++ [r]).length - 1 = I.length := by simp
  have e2 : (I ++ [r]).getD I.length default = r := by simp [List.getD]
  unfold ewith
  rw [e1, e2]
  by_cases h : r.s = t ∧ r.f + r.n = a
  · rw [if_pos ⟨by simp, h⟩, if_pos h, List.set_append_right _ _ (Nat.le_refl _)]
    simp
  · rw [if_neg (fun k => h k.2), if_neg h]
theorem ein_one (r : Rn) (x t : Int) : EIn [r] x t ↔ r.f ≤ x ∧ x < r.f + r.n ∧ r.s = t := by
  rw [ein_cons]
  constructor
  · rintro (h | h)
    · exact h
    · exact absurd h ein_nil
  · exact .inl
theorem ewith_good {g : Int → Int} {a p q : Int} {out : List Rn} (h : EGd g a p out) (ha : a ≤ p) (hq : p < q) (hg : ∀ x, p ≤ x → x < q → g x = g p) : EGd g a q (ewith out p q (g p)) := by
  have he := h.ends
  rcases List.eq_nil_or_concat out with rfl | ⟨I, r, rfl⟩
  · have e : ewith [] p q (g p) = [⟨p, q - p, g p⟩] := by simp [ewith]
    rw [e]
    refine ⟨⟨.inl (by show a - 1 < p; omega), by show 1 ≤ q - p; omega, trivial⟩, fun x t => ?_⟩
    rw [ein_one]
    simp only
    constructor
    · rintro ⟨h1, h2, rfl⟩
      exact ⟨by omega, by omega, (hg x h1 (by omega)).symm⟩
    · rintro ⟨h1, h2, rfl⟩
      have hx : p ≤ x := by
        rcases Int.lt_or_le x p with k | k
        · exact absurd ((h.2 x (g x)).2 ⟨h1, k, rfl⟩) ein_nil
        · exact k
      exact ⟨hx, by omega, (hg x hx h2).symm⟩
  · rw [List.concat_eq_append] at h he ⊢
    have hr := he r (by simp)
    obtain ⟨h1, h2⟩ := h
    rw [ec_append] at h1
    obtain ⟨c1, c2, c3, _⟩ := h1
    rw [ewith_snoc]
    have hin : ∀ x t, (EIn I x t ∨ (r.f ≤ x ∧ x < r.f + r.n ∧ r.s = t)) ↔ a ≤ x ∧ x < p ∧ t = g x := fun x t => by
      rw [← h2 x t, ein_append, ein_one]
    by_cases hm : r.s = g p ∧ r.f + r.n = p
    · rw [if_pos hm]
      refine ⟨(ec_append _ _ _ _).2 ⟨c1, c2, by show 1 ≤ q - r.f; omega, trivial⟩, fun x t => ?_⟩
      rw [ein_append, ein_one]
      simp only
      constructor
      · rintro (k | ⟨k1, k2, k3⟩)
        · have := (hin x t).1 (.inl k)
          omega
        · by_cases hx : x < p
          · have := (hin x t).1 (.inr ⟨k1, by omega, k3⟩)
            omega
          · have := hg x (by omega) (by omega)
            refine ⟨by omega, by omega, ?_⟩
            rw [this, ← hm.1, k3]
      · rintro ⟨k1, k2, k3⟩
        by_cases hx : x < p
        · rcases (hin x t).2 ⟨k1, hx, k3⟩ with k | ⟨k4, k5, k6⟩
          · exact .inl k
          · exact .inr ⟨k4, by omega, k6⟩
        · have := hg x (by omega) k2
          exact .inr ⟨by omega, by omega, by rw [k3, this, hm.1]⟩
    · rw [if_neg hm]
      refine ⟨(ec_append _ _ _ _).2 ⟨(ec_append _ _ _ _).2 ⟨c1, c2, c3, trivial⟩, ?_⟩, fun x t => ?_⟩
      · rw [eend_snoc]
        refine ⟨?_, by show 1 ≤ q - p; omega, trivial⟩
        show r.f + r.n < p ∨ (r.f + r.n = p ∧ r.s ≠ g p)
        by_cases k : r.f + r.n = p
        · exact .inr ⟨k, fun e => hm ⟨e, k⟩⟩
        · exact .inl (by omega)
      · rw [ein_append, ein_append, ein_one, ein_one, hin]
        simp only
        constructor
        · rintro (k | ⟨k1, k2, k3⟩)
          · exact ⟨k.1, by omega, k.2.2⟩
          · have := hg x k1 (by omega)
            exact ⟨by omega, by omega, by rw [this, k3]⟩
        · rintro ⟨k1, k2, k3⟩
          by_cases hx : x < p
          · exact .inl ⟨k1, hx, k3⟩
          · have := hg x (by omega) k2
            exact .inr ⟨by omega, by omega, by rw [k3, this]⟩
/-- A place to go on from. -/
structure ENext (g : Int → Int) (a b : Int) (out : List Rn) (rest : List Int) : Prop where
  rise : rest.Pairwise (· < ·)
  less : ∀ p ∈ rest, p < b
  flat : ∀ (A B : List Int) (p : Int), rest = A ++ p :: B → ∀ x, p ≤ x → x < B.headD b → g x = g p
  here : (out = [] ∧ a ∈ rest) ∨ ((∀ p ∈ rest, a < p) ∧ EGd g a (rest.headD b) out)
theorem headD_le {B : List Int} {b : Int} (hb : ∀ p ∈ B, p < b) : B.headD b ≤ b := by
  cases B with
  | nil => exact Int.le_refl _
  | cons x B => have := hb x (List.mem_cons_self ..); simp only [List.headD_cons]; omega
theorem egd_nil (g : Int → Int) (a : Int) : EGd g a a [] := ⟨trivial, fun x t => ⟨fun h => absurd h ein_nil, fun h => by omega⟩⟩
theorem ENext.step {g : Int → Int} {a b p : Int} {out : List Rn} {rest : List Int} (h : ENext g a b out (p :: rest)) : ENext g a b (if p < a then out else ewith out p (rest.headD b) (g p)) rest := by
  obtain ⟨h1, h2, h3, h4⟩ := h
  rw [List.pairwise_cons] at h1
  have hq : p < rest.headD b := by
    cases rest with
    | nil => exact h2 p (by simp)
    | cons y rest => exact h1.1 y (List.mem_cons_self ..)
  refine ⟨h1.2, fun q hq => h2 q (List.mem_cons_of_mem _ hq), fun A B q e => h3 (p :: A) B q (by rw [e]; rfl), ?_⟩
  rcases h4 with ⟨rfl, ha⟩ | ⟨ha, hg⟩
  · by_cases hp : p < a
    · rw [if_pos hp]
      rcases List.mem_cons.1 ha with rfl | ha
      · omega
      · exact .inl ⟨rfl, ha⟩
    · rw [if_neg hp]
      have hpa : p = a := by
        rcases List.mem_cons.1 ha with rfl | ha
        · rfl
        · have := h1.1 a ha; omega
      subst hpa
      exact .inr ⟨h1.1, ewith_good (egd_nil g p) (Int.le_refl _) hq (h3 [] rest p rfl)⟩
  · have hap := ha p (List.mem_cons_self ..)
    rw [if_neg (by omega)]
    exact .inr ⟨fun q hq => by have := h1.1 q hq; omega, ewith_good hg (by show a ≤ p; omega) hq (h3 [] rest p rfl)⟩
theorem ENext.pre {g : Int → Int} {a b p : Int} {out : List Rn} {rest : List Int} (h : ENext g a b out (p :: rest)) : (∀ r ∈ out, a ≤ r.f ∧ 1 ≤ r.n ∧ r.f + r.n ≤ p) ∧ p < rest.headD b ∧ rest.headD b ≤ b := by
  obtain ⟨h1, h2, h3, h4⟩ := h
  rw [List.pairwise_cons] at h1
  refine ⟨?_, ?_, headD_le (fun q hq => h2 q (List.mem_cons_of_mem _ hq))⟩
  · rcases h4 with ⟨rfl, _⟩ | ⟨_, hg⟩
    · intro r hr; cases hr
    · exact hg.ends
  · cases rest with
    | nil => exact h2 p (by simp)
    | cons y rest => exact h1.1 y (List.mem_cons_self ..)
theorem estep_good {g : Int → Int} {a b : Int} (rest : List Int) : ∀ out : List Rn, ENext g a b out rest → EGd g a b (estep g a b out rest) := by
  induction rest with
  | nil =>
    intro out h
    rcases h.here with ⟨_, h2⟩ | ⟨_, h2⟩
    · cases h2
    · exact h2
  | cons p rest ih => intro out h; exact ih _ h.step
theorem eat_flat (L : List Rn) {p q x : Int} (hc : ∀ c, (∃ r ∈ L, c = r.f ∨ c = r.f + r.n) → c ≤ p ∨ q ≤ c) (h1 : p ≤ x) (h2 : x < q) : eAt L x = eAt L p := by
  induction L with
  | nil => rfl
  | cons r L ih =>
    have a1 := hc r.f ⟨r, List.mem_cons_self .., .inl rfl⟩
    have a2 := hc (r.f + r.n) ⟨r, List.mem_cons_self .., .inr rfl⟩
    unfold eAt
    rw [ih (fun c ⟨y, hy, e⟩ => hc c ⟨y, List.mem_cons_of_mem _ hy, e⟩)]
    by_cases h : r.f ≤ x ∧ x < r.f + r.n
    · rw [if_pos h, if_pos (by omega)]
    · rw [if_neg h, if_neg (by omega)]
/-- The states' runs. -/
def estates (L : List Rn) (f n s a b : Int) : List Rn := estep (enew L f n s) a b [] (eplaces L f n a b)
theorem eplaces_next (L : List Rn) (f n s a b : Int) (hab : a < b) : ENext (enew L f n s) a b [] (eplaces L f n a b) := by
  have hr := eplaces_rise L f n a b
  refine ⟨hr, fun p hp => ?_, fun A B p e x h1 h2 => ?_, .inl ⟨rfl, (eplaces_mem L f n a b a).2 (.inl rfl)⟩⟩
  · rcases (eplaces_mem L f n a b p).1 hp with h | h
    · omega
    · exact h.1
  · have hb : B.headD b ≤ b := headD_le (fun y hy => by
      have hy2 : y ∈ eplaces L f n a b := by rw [e]; simp [hy]
      rcases (eplaces_mem L f n a b y).1 hy2 with h | h
      · omega
      · exact h.1)
    have key : ∀ c, (c = f ∨ c = f + n ∨ ∃ r ∈ L, c = r.f ∨ c = r.f + r.n) → c ≤ p ∨ B.headD b ≤ c := fun c hc => by
      by_cases hcb : c < b
      · have hm : c ∈ eplaces L f n a b := (eplaces_mem L f n a b c).2 (.inr ⟨hcb, hc⟩)
        rw [e] at hm hr
        rw [List.pairwise_append] at hr
        rcases List.mem_append.1 hm with k | k
        · exact .inl (Int.le_of_lt (hr.2.2 c k p (List.mem_cons_self ..)))
        · rcases List.mem_cons.1 k with rfl | k
          · exact .inl (Int.le_refl _)
          · have h9 := hr.2.1
            rw [List.pairwise_cons] at h9
            cases B with
            | nil => cases k
            | cons y B =>
              rcases List.mem_cons.1 k with rfl | k
              · exact .inr (Int.le_refl _)
              · have := h9.2
                rw [List.pairwise_cons] at this
                exact .inr (Int.le_of_lt (this.1 c k))
      · exact .inr (by omega)
    have k1 := key f (.inl rfl)
    have k2 := key (f + n) (.inr (.inl rfl))
    unfold enew
    rw [eat_flat L (fun c hc => key c (.inr (.inr hc))) h1 h2]
    by_cases h : f ≤ x ∧ x < f + n
    · rw [if_pos h, if_pos (by omega)]
    · rw [if_neg h, if_neg (by omega)]
theorem estates_good (L : List Rn) (f n s a b : Int) (hab : a < b) : EGd (enew L f n s) a b (estates L f n s a b) := estep_good _ _ (eplaces_next L f n s a b hab)

/-- The reference's Put and Query. -/
def erput (L : List Rn) (f n s : Int) : List Rn := (estates L f n s 0 576460752303423488).filter fun r => decide (r.s ≠ 0)
def erquery (L : List Rn) (f n : Int) : List Rn := estates L 576460752303423488 1 0 f (f + n)
theorem eputs_is {L J : List Rn} {f n s : Int} (h : EPuts L f n s J) (hL : ERt L) (f0 : 0 ≤ f) (fn : f + n ≤ 576460752303423488) : J = erput L f n s := by
  have hg := estates_good L f n s 0 576460752303423488 (by omega)
  refine ec_uniq h.1 (efilter_ec _ _ _ _ _ _ hg.1 (.inr ⟨rfl, rfl⟩)) (fun x t => ?_)
  rw [h.2]
  unfold erput
  rw [efilter_in, hg.2]
  constructor
  · rintro ⟨h1, h2⟩
    refine ⟨⟨?_, ?_, h1⟩, h2⟩
    · unfold enew at h1
      split at h1
      · omega
      · rw [h1] at h2
        obtain ⟨q, hq, q1, _⟩ := eat_in h2
        have := (hL.ok q hq).1
        omega
    · unfold enew at h1
      split at h1
      · omega
      · rw [h1] at h2
        obtain ⟨q, hq, _, q2, _⟩ := eat_in h2
        have := (hL.ok q hq).2.2.1
        omega
  · rintro ⟨⟨_, _, h3⟩, h4⟩
    exact ⟨h3, h4⟩
/-- A span's runs, told by what they are. -/
theorem ecut_good {L : List Rn} {f n : Int} (hL : ERt L) (f0 : 0 ≤ f) (fn : f + n ≤ 576460752303423488) : EC 0 3 (ecut f n (eevery 0 L)) ∧ ∀ x t, EIn (ecut f n (eevery 0 L)) x t ↔ f ≤ x ∧ x < f + n ∧ t = eAt L x := by
  have hz : ∀ r ∈ L, r.s ≠ 0 := fun r hr => by have := (hL.ok r hr).2.2.2; omega
  refine ⟨ecut_ec f n _ _ _ _ _ (eevery_ec L 0 3 (by omega) hL.ec hz) (.inr ⟨rfl, rfl⟩), fun x t => ?_⟩
  rw [ecut_in, eevery_in L 0 3 hL.ec (fun r hr => (hL.ok r hr).2.2.1)]
  constructor
  · rintro ⟨⟨h1, h2, h3⟩, h4, h5⟩
    exact ⟨h4, h5, h3⟩
  · rintro ⟨h1, h2, h3⟩
    exact ⟨⟨by omega, by omega, h3⟩, h1, h2⟩
theorem equery_is {L : List Rn} {f n : Int} (hL : ERt L) (f0 : 0 ≤ f) (n0 : 1 ≤ n) (fn : f + n ≤ 576460752303423488) : ecut f n (eevery 0 L) = erquery L f n := by
  have hg := estates_good L 576460752303423488 1 0 f (f + n) (by omega)
  have hc := ecut_good hL f0 fn
  refine ec_uniq hc.1 hg.1 (fun x t => ?_)
  rw [hc.2]
  unfold erquery
  rw [hg.2]
  constructor
  · rintro ⟨h1, h2, h3⟩
    refine ⟨h1, h2, ?_⟩
    unfold enew
    rw [if_neg (by omega)]
    exact h3
  · rintro ⟨h1, h2, h3⟩
    refine ⟨h1, h2, ?_⟩
    unfold enew at h3
    rw [if_neg (by omega)] at h3
    exact h3
end Go.Proofs.Ythimnpiiehggnaa
