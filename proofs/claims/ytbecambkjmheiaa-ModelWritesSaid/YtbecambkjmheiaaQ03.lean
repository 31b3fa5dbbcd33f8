/- Texts of this seat, one behind the other: NMath, NByte, NRow, NFind. -/
import Derived.Test.YtbecambkjmheiaaRows
import Derived.Laws.OwnMore
import Derived.Maps.AppendAt
import Derived.BigQuiet
import Derived.Test.YtbecambkjmheiaaQ01
import Derived.Test.YtbecambkjmheiaaQ02
/- Cells of blocks, in plain lists: what may be, where a block's one stands, what one put makes, and what many put one behind the other make. Nothing of any function. -/
namespace Go.Proofs.Ytbecambkjmheiaa

/-- A cell: a block's number, its state, its bytes. -/
structure CL where
  n : Nat
  s : Int
  d : List UInt8
deriving DecidableEq, Inhabited

/-- A cell may be, by itself. -/
def COk (c : CL) : Prop := c.n < 576460752303423488 ∧ ((c.s = 1 ∧ c.d.length = 32) ∨ (c.s = 2 ∧ c.d = []))
instance (c : CL) : Decidable (COk c) := by unfold COk; infer_instance
/-- Numbers rise. -/
def CUp (L : List CL) : Prop := ∀ j, j < L.length → 0 < j → (L.getD (j - 1) default).n < (L.getD j default).n
instance (L : List CL) : Decidable (CUp L) := by unfold CUp; infer_instance
/-- Cells may be. -/
def CRt (L : List CL) : Prop := L.length ≤ 64 ∧ (∀ j, j < L.length → COk (L.getD j default)) ∧ CUp L
instance (L : List CL) : Decidable (CRt L) := by unfold CRt; infer_instance
/-- They rise, pair by pair. -/
def CS (L : List CL) : Prop := L.Pairwise fun a b => a.n < b.n
/-- A hole, and a block's cell. -/
def cHole (n : Nat) : CL := ⟨n, 0, []⟩
def cAt (L : List CL) (n : Nat) : CL := (L.find? (fun c => c.n == n)).getD (cHole n)
/-- Those ahead of a block, and those from it on. -/
def clo (a : Nat) (L : List CL) : List CL := L.filter fun c => decide (c.n < a)
def chi (a : Nat) (L : List CL) : List CL := L.filter fun c => decide (a ≤ c.n)
/-- One cell put in its place; a hole takes that away. -/
def cput (L : List CL) (c : CL) : List CL := clo c.n L ++ (if c.s = 0 then [] else [c]) ++ chi (c.n + 1) L
/-- Some blocks' cells changed. -/
def cmid (L : List CL) (F : CL → CL) (a k : Nat) : List CL := ((List.range k).map fun i => F (cAt L (a + i))).filter fun c => decide (c.s ≠ 0)
def cdo (L : List CL) (F : CL → CL) (a k : Nat) : List CL := clo a L ++ cmid L F a k ++ chi (a + k) L
/-- Where a block's cell stands, or would stand. -/
def CPos (L : List CL) (n p : Nat) : Prop := p ≤ L.length ∧ (∀ t, t < p → (L.getD t default).n < n) ∧ ∀ t, p ≤ t → t < L.length → n ≤ (L.getD t default).n

theorem cgetD {L : List CL} {j : Nat} (h : j < L.length) : L.getD j default = L[j] := by simp [List.getD, h]
theorem cgetD_mem {L : List CL} {j : Nat} (h : j < L.length) : L.getD j default ∈ L := by rw [cgetD h]; exact List.getElem_mem h
theorem cup_lt {L : List CL} (h : CUp L) : ∀ j i, i < j → j < L.length → (L.getD i default).n < (L.getD j default).n := by
  intro j
  induction j with
  | zero => intro i hi; omega
  | succ j ih =>
    intro i hi hj
    have h1 := h (j + 1) hj (by omega)
    rw [Nat.add_sub_cancel] at h1
    by_cases e : i = j
    · rw [e]; exact h1
    · have := ih i (by omega) (by omega); omega
theorem cup_cs {L : List CL} (h : CUp L) : CS L := by
  unfold CS
  rw [List.pairwise_iff_getElem]
  intro i j hi hj hij
  have := cup_lt h j i hij hj
  rwa [cgetD hi, cgetD hj] at this
theorem cs_cup {L : List CL} (h : CS L) : CUp L := by
  intro j hj h0
  unfold CS at h
  rw [List.pairwise_iff_getElem] at h
  rw [cgetD hj, cgetD (show j - 1 < L.length by omega)]
  exact h (j - 1) j (by omega) hj (by omega)
theorem crt_ok {L : List CL} (h : CRt L) {c : CL} (hc : c ∈ L) : COk c := by
  obtain ⟨j, hj, rfl⟩ := List.getElem_of_mem hc
  have h1 := h.2.1 j hj
  rwa [cgetD hj] at h1
theorem crt_of {L : List CL} (h1 : L.length ≤ 64) (h2 : ∀ c ∈ L, COk c) (h3 : CS L) : CRt L :=
  ⟨h1, fun _ hj => h2 _ (cgetD_mem hj), cs_cup h3⟩
theorem cs_inj {L : List CL} (h : CS L) {a b : CL} (ha : a ∈ L) (hb : b ∈ L) (e : a.n = b.n) : a = b := by
  obtain ⟨i, hi, rfl⟩ := List.getElem_of_mem ha
  obtain ⟨j, hj, rfl⟩ := List.getElem_of_mem hb
  unfold CS at h
  rw [List.pairwise_iff_getElem] at h
  rcases Nat.lt_trichotomy i j with h1 | h1 | h1
  · have := h i j hi hj h1; omega
  · subst h1; rfl
  · have := h j i hj hi h1; omega
theorem cat_in {L : List CL} (h : CS L) {c : CL} (hc : c ∈ L) : cAt L c.n = c := by
  unfold cAt
  cases hf : L.find? (fun x => x.n == c.n) with
  | none =>
    rw [List.find?_eq_none] at hf
    exact absurd (hf c hc) (by simp)
  | some x =>
    have h1 := List.mem_of_find?_eq_some hf
    have h2 := List.find?_some hf
    simp only [beq_iff_eq] at h2
    exact cs_inj h h1 hc h2
theorem cat_no {L : List CL} {n : Nat} (h : ∀ c ∈ L, c.n ≠ n) : cAt L n = cHole n := by
  unfold cAt
  have : L.find? (fun x => x.n == n) = none := by
    rw [List.find?_eq_none]
    intro x hx
    simpa using h x hx
  rw [this]
  rfl
theorem cat_n (L : List CL) (n : Nat) : (cAt L n).n = n := by
  unfold cAt
  cases hf : L.find? (fun x => x.n == n) with
  | none => rfl
  | some x =>
    have h2 := List.find?_some hf
    simpa using h2
/-- What a block's cell is. -/
theorem cat_is (L : List CL) (n : Nat) : cAt L n ∈ L ∨ (cAt L n = cHole n ∧ ∀ c ∈ L, c.n ≠ n) := by
  cases hf : L.find? (fun x => x.n == n) with
  | none =>
    right
    rw [List.find?_eq_none] at hf
    have : ∀ c ∈ L, c.n ≠ n := fun c hc => by simpa using hf c hc
    exact ⟨cat_no this, this⟩
  | some x =>
    left
    have h1 := List.mem_of_find?_eq_some hf
    unfold cAt
    rw [hf]
    exact h1
theorem cat_ok {L : List CL} (h : CRt L) (n : Nat) : COk (cAt L n) ∨ cAt L n = cHole n := by
  rcases cat_is L n with h1 | h1
  · exact .inl (crt_ok h h1)
  · exact .inr h1.1

theorem CPos.take {L : List CL} {n p : Nat} (h : CPos L n p) : L.take p = clo n L := by
  have e : clo n L = clo n (L.take p ++ L.drop p) := by rw [List.take_append_drop]
  rw [e, clo, List.filter_append]
  have h1 : (L.take p).filter (fun c => decide (c.n < n)) = L.take p := by
    rw [List.filter_eq_self]
    intro c hc
    obtain ⟨j, hj, rfl⟩ := List.getElem_of_mem hc
    rw [List.length_take] at hj
    have := h.2.1 j (by omega)
    rw [cgetD (by omega)] at this
    simpa using this
  have h2 : (L.drop p).filter (fun c => decide (c.n < n)) = [] := by
    rw [List.filter_eq_nil_iff]
    intro c hc
    obtain ⟨j, hj, rfl⟩ := List.getElem_of_mem hc
    rw [List.length_drop] at hj
    have := h.2.2 (p + j) (by omega) (by omega)
    rw [cgetD (by omega)] at this
    simp only [List.getElem_drop, decide_eq_true_eq]
    omega
  rw [h1, h2, List.append_nil]
theorem CPos.drop {L : List CL} {n p : Nat} (h : CPos L n p) : L.drop p = chi n L := by
  have e : chi n L = chi n (L.take p ++ L.drop p) := by rw [List.take_append_drop]
  rw [e, chi, List.filter_append]
  have h1 : (L.take p).filter (fun c => decide (n ≤ c.n)) = [] := by
    rw [List.filter_eq_nil_iff]
    intro c hc
    obtain ⟨j, hj, rfl⟩ := List.getElem_of_mem hc
    rw [List.length_take] at hj
    have := h.2.1 j (by omega)
    rw [cgetD (by omega)] at this
    simp only [List.getElem_take, decide_eq_true_eq]
    omega
  have h2 : (L.drop p).filter (fun c => decide (n ≤ c.n)) = L.drop p := by
    rw [List.filter_eq_self]
    intro c hc
    obtain ⟨j, hj, rfl⟩ := List.getElem_of_mem hc
    rw [List.length_drop] at hj
    have := h.2.2 (p + j) (by omega) (by omega)
    rw [cgetD (by omega)] at this
    simp only [List.getElem_drop, decide_eq_true_eq]
    omega
  rw [h1, h2, List.nil_append]
theorem CPos.in_ {L : List CL} {n p : Nat} (h : CPos L n p) (hu : CUp L) (hp : p < L.length) (e : (L.getD p default).n = n) : CPos L (n + 1) (p + 1) := by
  refine ⟨by omega, fun t ht => ?_, fun t h1 h2 => ?_⟩
  · by_cases e2 : t = p
    · rw [e2]; omega
    · have := h.2.1 t (by omega); omega
  · have := cup_lt hu t p (by omega) h2
    omega
theorem CPos.out {L : List CL} {n p : Nat} (h : CPos L n p) (hu : CUp L) (hn : ¬ (p < L.length ∧ (L.getD p default).n = n)) : CPos L (n + 1) p := by
  refine ⟨h.1, fun t ht => by have := h.2.1 t ht; omega, fun t h1 h2 => ?_⟩
  have h3 := h.2.2 p (Nat.le_refl _) (by omega)
  have h4 : (L.getD p default).n ≠ n := fun e => hn ⟨by omega, e⟩
  by_cases e2 : t = p
  · rw [e2]; omega
  · have := cup_lt hu t p (by omega) h2
    omega
theorem CPos.at_in {L : List CL} {n p : Nat} (_ : CPos L n p) (hu : CUp L) (hp : p < L.length) (e : (L.getD p default).n = n) : cAt L n = L.getD p default := by
  rw [← e]
  exact cat_in (cup_cs hu) (cgetD_mem hp)
theorem CPos.at_out {L : List CL} {n p : Nat} (h : CPos L n p) (hu : CUp L) (hn : ¬ (p < L.length ∧ (L.getD p default).n = n)) : cAt L n = cHole n := by
  refine cat_no fun c hc e => ?_
  obtain ⟨j, hj, rfl⟩ := List.getElem_of_mem hc
  have h2 := h.out hu hn
  rcases Nat.lt_or_ge j p with h3 | h3
  · have := h.2.1 j h3
    rw [cgetD hj] at this
    omega
  · have := h2.2.2 j h3 hj
    rw [cgetD hj] at this
    omega
/-- One cell put, by places. -/
theorem CPos.put_in {L : List CL} {c : CL} {p : Nat} (h : CPos L c.n p) (hu : CUp L) (hp : p < L.length) (e : (L.getD p default).n = c.n) : cput L c = L.take p ++ (if c.s = 0 then [] else [c]) ++ L.drop (p + 1) := by
  rw [cput, h.take, (h.in_ hu hp e).drop]
theorem CPos.put_out {L : List CL} {c : CL} {p : Nat} (h : CPos L c.n p) (hu : CUp L) (hn : ¬ (p < L.length ∧ (L.getD p default).n = c.n)) : cput L c = L.take p ++ (if c.s = 0 then [] else [c]) ++ L.drop p := by
  rw [cput, h.take, (h.out hu hn).drop]

theorem mem_clo {a : Nat} {L : List CL} {c : CL} : c ∈ clo a L ↔ c ∈ L ∧ c.n < a := by simp [clo]
theorem mem_chi {a : Nat} {L : List CL} {c : CL} : c ∈ chi a L ↔ c ∈ L ∧ a ≤ c.n := by simp [chi]
theorem mem_cmid {L : List CL} {F : CL → CL} {a k : Nat} {c : CL} : c ∈ cmid L F a k ↔ ∃ i, i < k ∧ F (cAt L (a + i)) = c ∧ c.s ≠ 0 := by
  simp only [cmid, List.mem_filter, List.mem_map, List.mem_range, decide_eq_true_eq]
  constructor
  · rintro ⟨⟨i, h1, h2⟩, h3⟩; exact ⟨i, h1, h2, h3⟩
  · rintro ⟨i, h1, h2, h3⟩; exact ⟨⟨i, h1, h2⟩, h3⟩
section
variable {L : List CL} {F : CL → CL} {a k : Nat}
theorem cmid_n (hF : ∀ c, (F c).n = c.n) {c : CL} (h : c ∈ cmid L F a k) : a ≤ c.n ∧ c.n < a + k := by
  obtain ⟨i, h1, rfl, _⟩ := mem_cmid.1 h
  rw [hF, cat_n]
  omega
theorem cdo_zero (h : CS L) : cdo L F a 0 = L := by
  have e : cmid L F a 0 = [] := rfl
  rw [cdo, e, List.append_nil, Nat.add_zero]
  clear e
  unfold CS at h
  unfold clo chi
  induction L with
  | nil => rfl
  | cons x M ih =>
    rw [List.pairwise_cons] at h
    have h2 := ih h.2
    by_cases hx : x.n < a
    · rw [List.filter_cons_of_pos (by simpa using hx), List.filter_cons_of_neg (by simp; omega), List.cons_append, h2]
    · rw [List.filter_cons_of_neg (by simpa using hx), List.filter_cons_of_pos (by simp; omega)]
      have h3 : M.filter (fun c => decide (c.n < a)) = [] := by
        rw [List.filter_eq_nil_iff]
        intro c hc
        have := h.1 c hc
        simp only [decide_eq_true_eq]
        omega
      rw [h3] at h2 ⊢
      rw [List.nil_append] at h2 ⊢
      rw [h2]
theorem cdo_step (hF : ∀ c, (F c).n = c.n) : cput (cdo L F a k) (F (cAt L (a + k))) = cdo L F a (k + 1) := by
  have en : (F (cAt L (a + k))).n = a + k := by rw [hF, cat_n]
  have e1 : clo (a + k) (cdo L F a k) = clo a L ++ cmid L F a k := by
    rw [cdo, clo, List.filter_append]
    have h1 : (clo a L ++ cmid L F a k).filter (fun c => decide (c.n < a + k)) = clo a L ++ cmid L F a k := by
      rw [List.filter_eq_self]
      intro c hc
      rcases List.mem_append.1 hc with h | h
      · have := (mem_clo.1 h).2; simp only [decide_eq_true_eq]; omega
      · have := (cmid_n hF h).2; simpa using this
    have h2 : (chi (a + k) L).filter (fun c => decide (c.n < a + k)) = [] := by
      rw [List.filter_eq_nil_iff]
      intro c hc
      have := (mem_chi.1 hc).2
      simp only [decide_eq_true_eq]
      omega
    rw [h1, h2, List.append_nil]
  have e2 : chi (a + k + 1) (cdo L F a k) = chi (a + k + 1) L := by
    rw [cdo, chi, List.filter_append]
    have h1 : (clo a L ++ cmid L F a k).filter (fun c => decide (a + k + 1 ≤ c.n)) = [] := by
      rw [List.filter_eq_nil_iff]
      intro c hc
      rcases List.mem_append.1 hc with h | h
      · have := (mem_clo.1 h).2; simp only [decide_eq_true_eq]; omega
      · have := (cmid_n hF h).2; simp only [decide_eq_true_eq]; omega
    rw [h1, List.nil_append]
    unfold chi
    rw [List.filter_filter]
    refine List.filter_congr fun c _ => ?_
    by_cases h : a + k + 1 ≤ c.n
    · have : a + k ≤ c.n := by omega
      simp [h, this]
    · simp [h]
  rw [cput, en, e1, e2, cdo]
  have e3 : cmid L F a (k + 1) = cmid L F a k ++ (if (F (cAt L (a + k))).s = 0 then [] else [F (cAt L (a + k))]) := by
    rw [cmid, List.range_succ, List.map_append, List.filter_append, cmid]
    congr 1
    by_cases h : (F (cAt L (a + k))).s = 0
    · simp [h]
    · simp [h]
  rw [e3, Nat.add_assoc]
  simp only [List.append_assoc]
theorem mem_cdo {c : CL} : c ∈ cdo L F a k ↔ (c ∈ L ∧ c.n < a) ∨ (∃ i, i < k ∧ F (cAt L (a + i)) = c ∧ c.s ≠ 0) ∨ (c ∈ L ∧ a + k ≤ c.n) := by
  rw [cdo, List.mem_append, List.mem_append, mem_clo, mem_chi, mem_cmid, or_assoc]
theorem cdo_cs (h : CS L) (hF : ∀ c, (F c).n = c.n) : CS (cdo L F a k) := by
  unfold CS cdo
  rw [List.pairwise_append, List.pairwise_append]
  refine ⟨⟨List.Pairwise.filter _ h, ?_, fun x hx y hy => ?_⟩, List.Pairwise.filter _ h, fun x hx y hy => ?_⟩
  · unfold cmid
    refine List.Pairwise.filter _ ?_
    rw [List.pairwise_map]
    refine (List.pairwise_lt_range).imp fun {i j} hij => ?_
    rw [hF, hF, cat_n, cat_n]
    omega
  · have := (mem_clo.1 hx).2
    have := cmid_n hF hy
    omega
  · have h2 := (mem_chi.1 hy).2
    rcases List.mem_append.1 hx with h1 | h1
    · have := (mem_clo.1 h1).2; omega
    · have := cmid_n hF h1; omega
theorem cat_cdo_out (h : CS L) (hF : ∀ c, (F c).n = c.n) {n : Nat} (hn : n < a ∨ a + k ≤ n) : cAt (cdo L F a k) n = cAt L n := by
  rcases cat_is L n with h1 | h1
  · have h2 : cAt L n ∈ cdo L F a k := mem_cdo.2 (by
      have e := cat_n L n
      rcases hn with h3 | h3
      · exact .inl ⟨h1, by omega⟩
      · exact .inr (.inr ⟨h1, by omega⟩))
    have h3 := cat_in (cdo_cs h hF) h2
    rwa [cat_n] at h3
  · rw [h1.1]
    refine cat_no fun c hc e => ?_
    rcases mem_cdo.1 hc with h2 | ⟨i, h2, h3, _⟩ | h2
    · exact h1.2 c h2.1 e
    · rw [← h3, hF, cat_n] at e
      omega
    · exact h1.2 c h2.1 e
theorem cat_cdo_in (h : CS L) (hF : ∀ c, (F c).n = c.n) {n : Nat} (h1 : a ≤ n) (h2 : n < a + k) : cAt (cdo L F a k) n = if (F (cAt L n)).s = 0 then cHole n else F (cAt L n) := by
  have e : a + (n - a) = n := by omega
  split
  · rename_i h0
    refine cat_no fun c hc en => ?_
    rcases mem_cdo.1 hc with h3 | ⟨i, h3, h4, h5⟩ | h3
    · omega
    · have hi : a + i = n := by rw [← h4, hF, cat_n] at en; exact en
      rw [hi] at h4
      rw [h4] at h0
      exact h5 h0
    · omega
  · rename_i h0
    have h3 : F (cAt L n) ∈ cdo L F a k := mem_cdo.2 (.inr (.inl ⟨n - a, by omega, by rw [e], h0⟩))
    have h4 := cat_in (cdo_cs h hF) h3
    rwa [hF, cat_n] at h4
theorem cput_len {c : CL} {p : Nat} (hu : CUp L) (hp : CPos L c.n p) (hc : c.s = 0 ∨ ∃ x ∈ L, x.n = c.n) : (cput L c).length ≤ L.length := by
  by_cases h : p < L.length ∧ (L.getD p default).n = c.n
  · rw [hp.put_in hu h.1 h.2]
    have := hp.1
    by_cases h0 : c.s = 0
    · simp [h0]; omega
    · simp [h0]; omega
  · rw [hp.put_out hu h]
    have := hp.1
    rcases hc with h0 | ⟨x, hx, e⟩
    · simp [h0]
    · obtain ⟨j, hj, rfl⟩ := List.getElem_of_mem hx
      exfalso
      have h2 := hp.out hu h
      rcases Nat.lt_or_ge j p with h3 | h3
      · have := hp.2.1 j h3
        rw [cgetD hj] at this
        omega
      · have := h2.2.2 j h3 hj
        rw [cgetD hj] at this
        omega
theorem cput_len1 {c : CL} {p : Nat} (hu : CUp L) (hp : CPos L c.n p) : (cput L c).length ≤ L.length + 1 := by
  by_cases h : p < L.length ∧ (L.getD p default).n = c.n
  · rw [hp.put_in hu h.1 h.2]
    have := hp.1
    by_cases h0 : c.s = 0
    · simp [h0]; omega
    · simp [h0]; omega
  · rw [hp.put_out hu h]
    have := hp.1
    by_cases h0 : c.s = 0
    · simp [h0]
    · simp [h0]; omega
theorem cpos_ex : ∀ (L : List CL), CUp L → ∀ n, CPos L n (clo n L).length := by
  intro L hu n
  have hs := cup_cs hu
  have e : clo n L ++ chi n L = L := by
    have := cdo_zero (F := id) (a := n) hs
    rw [cdo, show cmid L id n 0 = [] from rfl, List.append_nil, Nat.add_zero] at this
    exact this
  have hl : (clo n L).length + (chi n L).length = L.length := by rw [← List.length_append, e]
  refine ⟨by omega, fun t ht => ?_, fun t h1 h2 => ?_⟩
  · have h3 : L.getD t default = (clo n L).getD t default := by
      conv => lhs; rw [← e]
      simp [List.getD, List.getElem?_append, ht]
    rw [h3]
    exact (mem_clo.1 (cgetD_mem ht)).2
  · have h4 : t - (clo n L).length < (chi n L).length := by omega
    have h3 : L.getD t default = (chi n L).getD (t - (clo n L).length) default := by
      conv => lhs; rw [← e]
      simp [List.getD, List.getElem?_append, show ¬ t < (clo n L).length by omega]
    rw [h3]
    exact (mem_chi.1 (cgetD_mem h4)).2
/-- A change that makes no cell of a hole makes no cell. -/
theorem cdo_len (h : CS L) (hF : ∀ c, (F c).n = c.n) (hz : ∀ n, (F (cHole n)).s = 0) : (cdo L F a k).length ≤ L.length := by
  induction k with
  | zero => rw [cdo_zero h]; exact Nat.le_refl _
  | succ k ih =>
    rw [← cdo_step hF]
    have hu := cs_cup (cdo_cs (a := a) (k := k) h hF)
    refine Nat.le_trans (cput_len hu (cpos_ex _ hu _) ?_) ih
    rcases cat_is L (a + k) with h1 | h1
    · right
      refine ⟨cAt L (a + k), mem_cdo.2 (.inr (.inr ⟨h1, by rw [cat_n]; omega⟩)), ?_⟩
      rw [hF]
    · left
      rw [h1.1]
      exact hz _
theorem cdo_len1 (h : CS L) (hF : ∀ c, (F c).n = c.n) : (cdo L F a k).length ≤ L.length + k := by
  induction k with
  | zero => rw [cdo_zero h]; exact Nat.le_refl _
  | succ k ih =>
    rw [← cdo_step hF]
    have hu := cs_cup (cdo_cs (a := a) (k := k) h hF)
    have := cput_len1 hu (cpos_ex _ hu (F (cAt L (a + k))).n)
    omega
theorem cdo_ok (h : CRt L) (hk : a + k ≤ 576460752303423488) (hO : ∀ c, c.n < 576460752303423488 → COk c ∨ c = cHole c.n → (F c).s = 0 ∨ COk (F c)) : ∀ c ∈ cdo L F a k, COk c := by
  intro c hc
  rcases mem_cdo.1 hc with h1 | ⟨i, h1, h2, h3⟩ | h1
  · exact crt_ok h h1.1
  · have h4 := hO (cAt L (a + i)) (by rw [cat_n]; omega) (by rw [cat_n]; exact cat_ok h _)
    rw [h2] at h4
    rcases h4 with h4 | h4
    · exact absurd h4 h3
    · exact h4
  · exact crt_ok h h1.1
theorem cdo_rt (h : CRt L) (hF : ∀ c, (F c).n = c.n) (hk : a + k ≤ 576460752303423488) (hO : ∀ c, c.n < 576460752303423488 → COk c ∨ c = cHole c.n → (F c).s = 0 ∨ COk (F c)) (hl : (cdo L F a k).length ≤ 64) : CRt (cdo L F a k) :=
  crt_of hl (cdo_ok h hk hO) (cdo_cs (cup_cs h.2.2) hF)
end
end Go.Proofs.Ytbecambkjmheiaa
/- Bytes of cells, and the four changes of one block, in plain lists. Nothing of any function. -/
namespace Go.Proofs.Ytbecambkjmheiaa

/-- A block's bytes, a byte, and a span's bytes. -/
def cbytes (c : CL) : List UInt8 := if c.s = 1 then c.d else List.replicate 32 0
def cByte (L : List CL) (m : Nat) : UInt8 := (cbytes (cAt L (m / 32))).getD (m % 32) 0
def cread (L : List CL) (f n : Nat) : List UInt8 := (List.range n).map fun i => cByte L (f + i)
/-- A block's bytes, those of a span turned to others. -/
def cmix (g : Nat → UInt8) (f len : Nat) (c : CL) : List UInt8 := (List.range 32).map fun i => if f ≤ 32 * c.n + i ∧ 32 * c.n + i < f + len then g (32 * c.n + i - f) else (cbytes c).getD i 0
/-- A block is in a span. -/
def cWhole (f len n : Nat) : Prop := f ≤ 32 * n ∧ 32 * n + 31 < f + len
instance (f len n : Nat) : Decidable (cWhole f len n) := by unfold cWhole; infer_instance
/-- What becomes of a block: 1 written, 2 discarded, 3 zeroed, 4 reserved. -/
def cF (w : Nat) (g : Nat → UInt8) (f len : Nat) (c : CL) : CL :=
  if w = 1 then ⟨c.n, 1, cmix g f len c⟩
  else if w = 4 then (if c.s = 0 then ⟨c.n, 2, []⟩ else c)
  else if cWhole f len c.n then (if w = 3 ∧ c.s ≠ 0 then ⟨c.n, 2, []⟩ else cHole c.n)
  else if c.s = 1 then ⟨c.n, 1, cmix (fun _ => 0) f len c⟩ else c
/-- A cell that may be, or a hole. -/
def CIs (c : CL) : Prop := COk c ∨ c = cHole c.n

theorem cF_n (w : Nat) (g : Nat → UInt8) (f len : Nat) (c : CL) : (cF w g f len c).n = c.n := by
  unfold cF
  split
  · rfl
  · split
    · split <;> rfl
    · split
      · split <;> rfl
      · split <;> rfl
theorem cis_len {c : CL} (h : CIs c) : (cbytes c).length = 32 := by
  unfold cbytes
  split
  · rename_i hs
    rcases h with ⟨_, h1 | h1⟩ | h1
    · exact h1.2
    · omega
    · rw [h1] at hs; simp [cHole] at hs
  · simp
theorem cmix_len (g : Nat → UInt8) (f len : Nat) (c : CL) : (cmix g f len c).length = 32 := by simp [cmix]
theorem cF_ok {w : Nat} {g : Nat → UInt8} {f len : Nat} (c : CL) (hn : c.n < 576460752303423488) (h : COk c ∨ c = cHole c.n) : (cF w g f len c).s = 0 ∨ COk (cF w g f len c) := by
  have hs : c.s = 0 ∨ COk c := by
    rcases h with h | h
    · exact .inr h
    · left; rw [h]; rfl
  unfold cF
  split
  · exact .inr ⟨hn, .inl ⟨rfl, by simp [cmix]⟩⟩
  · split
    · split
      · exact .inr ⟨hn, .inr ⟨rfl, rfl⟩⟩
      · exact hs
    · split
      · split
        · exact .inr ⟨hn, .inr ⟨rfl, rfl⟩⟩
        · exact .inl rfl
      · split
        · exact .inr ⟨hn, .inl ⟨rfl, by simp [cmix]⟩⟩
        · exact hs
theorem cF_hole {w : Nat} (g : Nat → UInt8) (f len : Nat) (h : w = 2 ∨ w = 3) (n : Nat) : (cF w g f len (cHole n)).s = 0 := by
  unfold cF
  rw [if_neg (by omega), if_neg (by omega)]
  split
  · rw [if_neg (by simp [cHole])]; rfl
  · rw [if_neg (by simp [cHole])]; rfl
/-- A block's bytes with a span's part of it put: the list's way. -/
theorem cmix_splice {g : Nat → UInt8} {f len i0 il : Nat} {c : CL} {T : List UInt8} (hc : (cbytes c).length = 32) (h0 : i0 = max f (32 * c.n)) (h1 : il = min (f + len) (32 * c.n + 32) - i0) (h2 : i0 < min (f + len) (32 * c.n + 32))
    (hT : T.length = il) (hg : ∀ j, j < il → T.getD j 0 = g (i0 + j - f)) : (cbytes c).take (i0 % 32) ++ T ++ (cbytes c).drop (i0 % 32 + il) = cmix g f len c := by
  have e0 : i0 = 32 * c.n + i0 % 32 := by omega
  have e1 : i0 % 32 + il ≤ 32 := by omega
  apply List.ext_getElem
  · simp [cmix, hc, hT]; omega
  · intro j h3 h4
    have hj : j < 32 := by rw [cmix_len] at h4; exact h4
    simp only [cmix, List.getElem_map, List.getElem_range]
    by_cases a1 : j < i0 % 32
    · rw [if_neg (by omega), List.getElem_append_left (by simp [hc, hT]; omega), List.getElem_append_left (by simp [hc]; omega), List.getElem_take]
      simp [List.getD, hc, hj]
    · by_cases a2 : j < i0 % 32 + il
      · rw [if_pos (by omega), List.getElem_append_left (by simp [hc, hT]; omega), List.getElem_append_right (by simp [hc]; omega)]
        have h5 : j - (List.take (i0 % 32) (cbytes c)).length < il := by simp [hc]; omega
        have h6 := hg (j - (List.take (i0 % 32) (cbytes c)).length) h5
        rw [List.getD, List.getElem?_eq_getElem (by rw [hT]; exact h5)] at h6
        simp only [Option.getD_some] at h6
        rw [h6]
        congr 1
        simp [hc]
        omega
      · rw [if_neg (by omega), List.getElem_append_right (by simp [hc, hT]; omega)]
        simp only [List.getElem_drop]
        have h5 : i0 % 32 + il + (j - (List.take (i0 % 32) (cbytes c) ++ T).length) = j := by simp [hc, hT]; omega
        simp only [h5]
        simp [List.getD, hc, hj]
theorem cread_len (L : List CL) (f n : Nat) : (cread L f n).length = n := by simp [cread]
theorem cread_more (L : List CL) (f a b : Nat) : cread L f a ++ cread L (f + a) b = cread L f (a + b) := by
  unfold cread
  rw [List.range_add, List.map_append, List.map_map]
  congr 1
  refine List.map_congr_left fun i _ => ?_
  simp [Nat.add_assoc]
/-- The part of one block. -/
theorem cread_part {L : List CL} {n o m : Nat} (hl : (cbytes (cAt L n)).length = 32) (h : o + m ≤ 32) : ((cbytes (cAt L n)).drop o).take m = cread L (32 * n + o) m := by
  apply List.ext_getElem
  · simp [cread, hl]; omega
  · intro j h3 h4
    have hj : j < m := by rw [cread_len] at h4; exact h4
    simp only [cread, List.getElem_map, List.getElem_range, List.getElem_take, List.getElem_drop, cByte]
    have e1 : (32 * n + o + j) / 32 = n := by omega
    have e2 : (32 * n + o + j) % 32 = o + j := by omega
    rw [e1, e2]
    simp [List.getD, hl, show o + j < 32 by omega]
theorem crep_get (n i : Nat) : (List.replicate n (0 : UInt8)).getD i 0 = 0 := by
  rw [List.getD, List.getElem?_replicate]
  split <;> rfl
theorem cbytes_hole (n : Nat) : cbytes (cHole n) = List.replicate 32 0 := by simp [cbytes, cHole]
/-- A byte behind a change. -/
theorem cbyte_do {L : List CL} {w : Nat} {g : Nat → UInt8} {f len : Nat} (hR : CRt L) (h1 : 1 ≤ len) (m : Nat) :
    cByte (cdo L (cF w g f len) (f / 32) ((f + (len - 1)) / 32 - f / 32 + 1)) m =
      if w ≠ 4 ∧ f ≤ m ∧ m < f + len then (if w = 1 then g (m - f) else 0) else cByte L m := by
  have hs := cup_cs hR.2.2
  have hF := cF_n w g f len
  have hm : m = 32 * (m / 32) + m % 32 := by omega
  have hq : m % 32 < 32 := by omega
  generalize m / 32 = n at hm
  generalize m % 32 = i at hm hq
  subst hm
  unfold cByte
  rw [show (32 * n + i) / 32 = n by omega, show (32 * n + i) % 32 = i by omega]
  have hb : (cbytes (cAt L n)).length = 32 := cis_len (by
    have := cat_ok hR n
    rcases this with h | h
    · exact .inl h
    · exact .inr (by rw [cat_n]; exact h))
  by_cases hin : f / 32 ≤ n ∧ n < f / 32 + ((f + (len - 1)) / 32 - f / 32 + 1)
  · rw [cat_cdo_in hs hF hin.1 hin.2]
    have hcn : (cAt L n).n = n := cat_n L n
    have hst := cat_ok hR n
    generalize cAt L n = c at hb hcn hst ⊢
    subst hcn
    have hmix : ∀ g', (cmix g' f len c).getD i 0 = if f ≤ 32 * c.n + i ∧ 32 * c.n + i < f + len then g' (32 * c.n + i - f) else (cbytes c).getD i 0 := fun g' => by
      simp [cmix, List.getD, hq]
    have hz : (List.replicate 32 (0 : UInt8)).getD i 0 = 0 := crep_get 32 i
    have hbh : c.s ≠ 1 → (cbytes c).getD i 0 = 0 := fun h => by rw [cbytes, if_neg h]; exact hz
    unfold cF
    by_cases w1 : w = 1
    · rw [if_pos w1]
      rw [if_neg (by simp)]
      rw [show cbytes (⟨c.n, 1, cmix g f len c⟩ : CL) = cmix g f len c by simp [cbytes], hmix g]
      by_cases hs2 : f ≤ 32 * c.n + i ∧ 32 * c.n + i < f + len
      · rw [if_pos hs2, if_pos ⟨by omega, hs2⟩, if_pos w1]
      · rw [if_neg hs2, if_neg (fun h => hs2 h.2)]
    · rw [if_neg w1]
      by_cases w4 : w = 4
      · rw [if_pos w4, if_neg (show ¬ (w ≠ 4 ∧ f ≤ 32 * c.n + i ∧ 32 * c.n + i < f + len) from fun h => h.1 w4)]
        by_cases c0 : c.s = 0
        · rw [if_pos c0, if_neg (by simp), hbh (by omega)]
          simp only [cbytes]
          rw [if_neg (by simp)]
          exact hz
        · rw [if_neg c0, if_neg c0]
      · rw [if_neg w4]
        by_cases hw2 : cWhole f len c.n
        · obtain ⟨k1, k2⟩ := id hw2
          rw [if_pos hw2, if_pos (show w ≠ 4 ∧ f ≤ 32 * c.n + i ∧ 32 * c.n + i < f + len from ⟨w4, by omega, by omega⟩), if_neg w1]
          by_cases h8 : w = 3 ∧ c.s ≠ 0
          · rw [if_pos h8, if_neg (by simp)]
            simp only [cbytes]
            rw [if_neg (by simp)]
            exact hz
          · rw [if_neg h8]
            simp only [ite_self]
            rw [cbytes_hole]
            exact hz
        · rw [if_neg hw2]
          by_cases c1 : c.s = 1
          · rw [if_pos c1, if_neg (by simp)]
            rw [show cbytes (⟨c.n, 1, cmix (fun _ => 0) f len c⟩ : CL) = cmix (fun _ => 0) f len c by simp [cbytes], hmix]
            by_cases hs2 : f ≤ 32 * c.n + i ∧ 32 * c.n + i < f + len
            · rw [if_pos hs2, if_pos ⟨w4, hs2⟩, if_neg w1]
            · rw [if_neg hs2, if_neg (fun h => hs2 h.2)]
          · rw [if_neg c1, hbh c1]
            have : (cbytes (if c.s = 0 then cHole c.n else c)).getD i 0 = 0 := by
              split
              · rw [cbytes_hole]; exact hz
              · exact hbh c1
            rw [this]
            rw [if_neg w1]
            split <;> rfl
  · rw [cat_cdo_out hs hF (by omega), if_neg (by omega)]
theorem cread_do {L : List CL} {w : Nat} {g : Nat → UInt8} {f len : Nat} (hR : CRt L) (h1 : 1 ≤ len) :
    cread (cdo L (cF w g f len) (f / 32) ((f + (len - 1)) / 32 - f / 32 + 1)) f len = if w = 4 then cread L f len else (List.range len).map fun i => if w = 1 then g i else 0 := by
  split
  · rename_i w4
    unfold cread
    refine List.map_congr_left fun i hi => ?_
    rw [cbyte_do hR h1, if_neg (fun h => h.1 w4)]
  · rename_i w4
    unfold cread
    refine List.map_congr_left fun i hi => ?_
    have := List.mem_range.1 hi
    rw [cbyte_do hR h1, if_pos ⟨w4, by omega, by omega⟩, Nat.add_sub_cancel_left]
end Go.Proofs.Ytbecambkjmheiaa
/- Rows of cells in memory. Nothing of any function. -/
namespace Go.Proofs.Ytbecambkjmheiaa
open Go.RowKit

/-- A cell's value, its cells, and a row's. -/
abbrev cv (c : CL) : Value := .agg #[vu c.n, .int .i64 c.s, sv c.d]
def cc (c : CL) : List Value := [vu c.n, .int .i64 c.s, sv c.d]
def ccells (L : List CL) : List Value := L.flatMap cc
theorem ccells_len (L : List CL) : (ccells L).length = L.length * 3 := by
  induction L with
  | nil => rfl
  | cons p L ih => simp only [ccells, List.flatMap_cons, List.length_append, cc, List.length_cons, List.length_nil] at ih ⊢; omega
theorem ccells_more (L M : List CL) : ccells (L ++ M) = ccells L ++ ccells M := by simp [ccells]
theorem ccells_one1 (c : CL) : ccells [c] = cc c := by simp [ccells]
theorem ccells_three (L : List CL) : ∀ k, k < L.length → (ccells L)[k * 3]? = some (vu (L.getD k default).n) ∧ (ccells L)[k * 3 + 1]? = some (.int .i64 (L.getD k default).s) ∧ (ccells L)[k * 3 + 2]? = some (sv (L.getD k default).d) := by
  induction L with
  | nil => intro k h; cases h
  | cons p L ih =>
    intro k h
    cases k with
    | zero => exact ⟨rfl, rfl, rfl⟩
    | succ k =>
      have := ih k (by simpa using h)
      rw [Nat.succ_mul]
      exact this
theorem ccells_one (L : List CL) : ∀ u ∈ ccells L, u.oneCell' = true := by
  intro u hu
  simp only [ccells, List.mem_flatMap] at hu
  obtain ⟨x, _, hx⟩ := hu
  simp [cc] at hx
  rcases hx with rfl | rfl | rfl <;> rfl
theorem ngetD_take (L : List CL) (m j : Nat) (h : j < m) : (L.take m).getD j default = L.getD j default := by
  simp [List.getD, h]
theorem ngetD_drop (L : List CL) (m j : Nat) : (L.drop m).getD j default = L.getD (m + j) default := by
  simp [List.getD]

/-- A row of cells that can be read: where it lies, if it has any. -/
def CR (w : World) (A : Option Addr) (L : List CL) : Prop :=
  ∀ j, j < L.length → ∃ g off, A = some ⟨g, off, none⟩ ∧ w.cell? ⟨g, off + j * 3, none⟩ = some (vu (L.getD j default).n) ∧ w.cell? ⟨g, off + j * 3 + 1, none⟩ = some (.int .i64 (L.getD j default).s) ∧ w.cell? ⟨g, off + j * 3 + 2, none⟩ = some (sv (L.getD j default).d)
section
variable {w w' : World} {A : Option Addr} {L : List CL}
theorem CR.later (h : CR w A L) (hb : Below w.heap.size w w') : CR w' A L := fun j hj => by
  obtain ⟨g, off, e, h0, h1, h2⟩ := h j hj
  exact ⟨g, off, e, cell_later hb h0, cell_later hb h1, cell_later hb h2⟩
theorem CR.nil (w : World) (A : Option Addr) : CR w A [] := fun j hj => absurd hj (by simp)
theorem CR.lt {g off : Nat} (h : CR w (some ⟨g, off, none⟩) L) (hp : 0 < L.length) : g < w.heap.size := by
  obtain ⟨g', off', e, h0, _⟩ := h 0 hp
  obtain ⟨rfl, rfl⟩ : g = g' ∧ off = off' := by injection e with e; injection e with e1 e2; exact ⟨e1, e2⟩
  exact World.block_lt_of_cell? _ _ h0
theorem CR.take (h : CR w A L) (m : Nat) : CR w A (L.take m) := fun j hj => by
  rw [List.length_take] at hj
  obtain ⟨g, off, e, h0, h1, h2⟩ := h j (by omega)
  rw [← ngetD_take L m j (by omega)] at h0 h1 h2
  exact ⟨g, off, e, h0, h1, h2⟩
theorem CR.drop {g off : Nat} (h : CR w (some ⟨g, off, none⟩) L) (m : Nat) : CR w (some ⟨g, off + m * 3, none⟩) (L.drop m) := fun j hj => by
  rw [List.length_drop] at hj
  obtain ⟨g', off', e, h0, h1, h2⟩ := h (m + j) (by omega)
  obtain ⟨rfl, rfl⟩ : g = g' ∧ off = off' := by injection e with e; injection e with e1 e2; exact ⟨e1, e2⟩
  rw [Nat.add_mul, ← Nat.add_assoc, ← ngetD_drop] at h0 h1 h2
  exact ⟨g, off + m * 3, rfl, h0, h1, h2⟩
/-- .. kept where its block is. -/
theorem CR.kp (h : CR w A L) (hk : ∀ g off, A = some ⟨g, off, none⟩ → w'.heap[g]? = w.heap[g]?) : CR w' A L := fun j hj => by
  obtain ⟨g, off, e, h0, h1, h2⟩ := h j hj
  have e9 := hk g off e
  have hc : ∀ o, w'.cell? ⟨g, o, none⟩ = w.cell? ⟨g, o, none⟩ := fun o => by simp only [World.cell?, e9]
  exact ⟨g, off, e, (hc _).trans h0, (hc _).trans h1, (hc _).trans h2⟩
/-- .. and as cells. -/
theorem CR.cells {a : Addr} (h : CR w (some a) L) : ∀ j u, (ccells L)[j]? = some u → w.cell? (a.add j) = some u := by
  intro j u hu
  have hj : j < (ccells L).length := (List.getElem?_eq_some_iff.1 hu).1
  rw [ccells_len] at hj
  obtain ⟨g, off, e, h0, h1, h2⟩ := h (j / 3) (by omega)
  obtain rfl : a = ⟨g, off, none⟩ := Option.some.inj e
  obtain ⟨p0, p1, p2⟩ := ccells_three L (j / 3) (by omega)
  rw [Go.WideShapes.add_plain]
  rcases (show j = j / 3 * 3 ∨ j = j / 3 * 3 + 1 ∨ j = j / 3 * 3 + 2 by omega) with hj2 | hj2 | hj2
  · rw [← hj2] at p0 h0
    rw [h0, ← p0, hu]
  · rw [← hj2] at p1
    rw [Nat.add_assoc, ← hj2] at h1
    rw [h1, ← p1, hu]
  · rw [← hj2] at p2
    rw [Nat.add_assoc, ← hj2] at h2
    rw [h2, ← p2, hu]
end
theorem blk_CR {W : World} {g : Nat} {t : TypeId} {L : List CL} {cur : Array Value} (h : Blk W g t cur) (hc : cur.toList.take (L.length * 3) = ccells L) : CR W (some ⟨g, 0, none⟩) L := fun j hj => by
  obtain ⟨p0, p1, p2⟩ := ccells_three L j hj
  rw [← hc, List.getElem?_take] at p0 p1 p2
  rw [if_pos (by omega), Array.getElem?_toList] at p0 p1 p2
  exact ⟨g, 0, rfl, by rw [Nat.zero_add, h.cell, p0], by rw [Nat.zero_add, h.cell, p1], by rw [Nat.zero_add, h.cell, p2]⟩
theorem own_CR {W : World} {base : Nat} {t : TypeId} {A : Option Addr} {n c : Nat} {L : List CL} (h : W.ownsRow base t 3 (.slice A n c) n (ccells L)) (hl : L.length = n) : CR W A L := by
  rcases h.2 with ⟨h2, h3⟩ | ⟨g, cap, cur, hv, _, hh, _, _, _, h7⟩
  · obtain rfl : L = [] := List.eq_nil_of_length_eq_zero (by omega)
    exact CR.nil _ _
  · injection hv with e1 e2 e3
    subst e1
    exact blk_CR (cur := cur) hh (by rw [hl]; exact h7)
theorem infoN : (Try.prog.info? 45).map (fun i => (i.zero, i.size, i.bytes)) = some (some (.agg #[.int .u64 0, .int .i64 0, .string ⟨#[]⟩]), 3, 32) := by kernel_rfl
end Go.Proofs.Ytbecambkjmheiaa
/- The contracts of cmp.Compare, slices.BinarySearchFunc and find. -/
namespace Go.Proofs.Ytbecambkjmheiaa
open Go.RowKit

set_option maxRecDepth 100000 in
set_option maxHeartbeats 1000000 in
theorem nnan_any (x : Nat) (w : World) :
    Calls Try.prog 81 #[vu x] w fun e w' => e = .returned (.bool false) ∧ w = w' := by
  go_enter Try.func81, Try.ntmps81
  go_wp2
  go_ret
  exact ⟨by simp, rfl⟩
/-- What cmp.Compare tells. -/
def ncmp (a b : Nat) : Int := if a < b then -1 else if b < a then 1 else 0
set_option maxRecDepth 100000 in
set_option maxHeartbeats 1000000 in
theorem ncmp_any (a b : Nat) (w : World) :
    Calls Try.prog 72 #[vu a, vu b] w fun e w' => e = .returned (.int .i64 (ncmp a b)) ∧ w = w' := by
  have HN := Lib.hid (fun x W => nnan_any x W)
  have hd1 : (a < b ∧ ncmp a b = -1) ∨ (¬ a < b ∧ b < a ∧ ncmp a b = 1) ∨ (¬ a < b ∧ ¬ b < a ∧ ncmp a b = 0) := by
    unfold ncmp
    by_cases h1 : a < b
    · exact .inl ⟨h1, by rw [if_pos h1]⟩
    · by_cases h2 : b < a
      · exact .inr (.inl ⟨h1, h2, by rw [if_neg h1, if_pos h2]⟩)
      · exact .inr (.inr ⟨h1, h2, by rw [if_neg h1, if_neg h2]⟩)
  rcases hd1 with ⟨h1, e⟩ | ⟨h1, h2, e⟩ | ⟨h1, h2, e⟩
  all_goals
    rw [e]
    clear e
    go_enter Try.func72, Try.ntmps72
    go_wp2_with fail
    refine (HN.out _ _).mono ?_
    rintro e w1 ⟨rfl, rfl⟩
    go_wp2_with fail
    refine (HN.out _ _).mono ?_
    rintro e w1 ⟨rfl, rfl⟩
    go_wp2
    go_ret
    exact ⟨rfl, rfl⟩
set_option maxRecDepth 100000 in
set_option maxHeartbeats 1000000 in
theorem nclo_any (x : CL) (k : Nat) (w : World) :
    Calls Try.prog 71 #[cv x, vu k] w fun e w' => e = .returned (.int .i64 (ncmp x.n k)) ∧ Below w.heap.size w w' := by
  have HC := Lib.hid (fun W => ncmp_any x.n k W)
  go_enter Try.func71, Try.ntmps71
  go_wp2_with fail
  refine (HC.out _).mono ?_
  rintro e w1 ⟨rfl, rfl⟩
  go_wp2
  go_ret
  exact ⟨rfl, ba (Below.refl _ _) _⟩
/-- A place's number. -/
abbrev nk (L : List CL) (j : Nat) : Nat := (L.getD j default).n
theorem ncmp_lt {a b : Nat} : ncmp a b < 0 ↔ a < b := by unfold ncmp; split <;> (try split) <;> omega
theorem ncmp_eq {a b : Nat} : ncmp a b = 0 ↔ a = b := by unfold ncmp; split <;> (try split) <;> omega

set_option maxRecDepth 100000 in
set_option maxHeartbeats 4000000 in
theorem nbin_any (A : Option Addr) (n c k : Nat) (L : List CL) (w : World) (hA : CR w A L) (hl : L.length = n) (hu : CUp L) (hn : n ≤ 65536) :
    Calls Try.prog 70 #[.slice A n c, vu k, .func (.func 71) #[] #[]] w fun e w' => ∃ p b, CPos L k p ∧ (b = true ↔ p < n ∧ nk L p = k) ∧ e = .returned (.tuple #[.int .i64 (p : Int), .bool b]) ∧ Below w.heap.size w w' := by
  have HA := Lib.hid hA
  have HC := Lib.hid (fun x W => nclo_any x k W)
  have HU := Lib.hid hu
  have HL := Lib.hid hl
  have HR : Hid (∀ lo, lo ≤ n → (∀ t, t < lo → nk L t < k) → (∀ t, lo ≤ t → t < n → k ≤ nk L t) → CPos L k lo) := Lib.hid fun lo h0 h1 h2 => ⟨by omega, h1, fun t a b => h2 t a (by omega)⟩
  clear hA hu hl
  go_enter Try.func70, Try.ntmps70
  go_wp2_with fail
  go_loopw [9, 10] (fun iv hv wr => ∃ lo hi : Nat, iv = .int .i64 (lo : Int) ∧ hv = .int .i64 (hi : Int) ∧ lo ≤ hi ∧ hi ≤ n ∧ Hid (∀ t, t < lo → nk L t < k) ∧ Hid (∀ t, hi ≤ t → t < n → k ≤ nk L t) ∧ Below w.heap.size w wr) (fun i h _ => (intOf h).toNat - (intOf i).toNat)
  case atStart => exact ⟨0, n, rfl, rfl, Nat.zero_le _, Nat.le_refl _, Lib.hid (fun t h => by omega), Lib.hid (fun t a b => by omega), Below.refl _ _⟩
  case round =>
    obtain ⟨lo, hi, rfl, rfl, hlh, hin, HLo, HHi, hb⟩ := hrel
    by_cases hlt : lo < hi
    · obtain ⟨m, hm⟩ : ∃ m, (lo + hi) / 2 = m := ⟨_, rfl⟩
      have em : ((lo : Int) + (hi : Int)) / 2 = (m : Int) := by omega
      have m0 : lo ≤ m := by omega
      have m1 : m < hi := by omega
      have m2 : (0 : Int) ≤ (m : Int) := by omega
      have m3 : (m : Int) < (n : Int) := by omega
      obtain ⟨g, off, rfl, c0, c1, c2⟩ := (HA.out.later hb) m (by rw [HL.out]; omega)
      have HI1 : Hid ((L.getD m default).n < k → ∀ t, t < m + 1 → nk L t < k) := Lib.hid fun h t ht => by
        rcases Nat.lt_or_ge t m with h1 | h1
        · have := cup_lt HU.out m t h1 (by rw [HL.out]; omega); unfold nk; omega
        · obtain rfl : t = m := by omega
          exact h
      have HI2 : Hid (¬ (L.getD m default).n < k → ∀ t, m ≤ t → t < n → k ≤ nk L t) := Lib.hid fun h t ht h2 => by
        rcases Nat.lt_or_ge m t with h1 | h1
        · have := cup_lt HU.out t m h1 (by rw [HL.out]; omega); unfold nk; omega
        · obtain rfl : t = m := by omega
          unfold nk; omega
      generalize L.getD m default = x at *
      have HCx := Lib.hid (fun W => HC.out x W)
      have HX := Lib.hid (ncmp_lt (a := x.n) (b := k))
      generalize ncmp x.n k = cx at HCx HX
      by_cases hc : cx < 0
      · have HI3 := Lib.hid (HI1.out (HX.out.1 hc))
        go_wp2_with fail
        refine (HCx.out _).mono ?_
        rintro e w1 ⟨rfl, hb1⟩
        go_wp2
        exact ⟨⟨m + 1, hi, by go_num, rfl, by omega, hin, HI3, HHi, bt hb hb1⟩, by simp [intOf]; omega⟩
      · have HI3 := Lib.hid (HI2.out (fun h => hc (HX.out.2 h)))
        go_wp2_with fail
        refine (HCx.out _).mono ?_
        rintro e w1 ⟨rfl, hb1⟩
        go_wp2
        exact ⟨⟨lo, m, rfl, rfl, m0, by omega, HLo, HI3, bt hb hb1⟩, by simp [intOf]; omega⟩
    · obtain rfl : lo = hi := by omega
      have HP := Lib.hid (HR.out lo hin HLo.out HHi.out)
      rcases Nat.lt_or_ge lo n with h1 | h1
      · obtain ⟨g, off, rfl, c0, c1, c2⟩ := (HA.out.later hb) lo (by rw [HL.out]; omega)
        have HD : Hid ((ncmp (L.getD lo default).n k == 0) = true ↔ lo < n ∧ nk L lo = k) := Lib.hid (by
          rw [beq_iff_eq, ncmp_eq]
          exact ⟨fun e => ⟨h1, e⟩, fun h => h.2⟩)
        generalize L.getD lo default = x at *
        have HCx := Lib.hid (fun W => HC.out x W)
        generalize ncmp x.n k = cx at HCx HD
        have m2 : (0 : Int) ≤ (lo : Int) := by omega
        have m3 : (lo : Int) < (n : Int) := by omega
        go_wp2_with fail
        refine (HCx.out _).mono ?_
        rintro e w1 ⟨rfl, hb1⟩
        go_wp2
        go_ret2
        exact ⟨lo, _, HP.out, HD.out, rfl, bt hb hb1⟩
      · obtain rfl : lo = n := by omega
        go_wp2
        go_ret2
        exact ⟨lo, _, HP.out, by simp, rfl, hb⟩

set_option maxRecDepth 100000 in
set_option maxHeartbeats 1000000 in
theorem nfind_any (A : Option Addr) (n c k : Nat) (L : List CL) (w : World) (hA : CR w A L) (hl : L.length = n) (hu : CUp L) (hn : n ≤ 65536) :
    Calls Try.prog 54 #[.slice A n c, vu k] w fun e w' => ∃ p b, CPos L k p ∧ (b = true ↔ p < n ∧ nk L p = k) ∧ e = .returned (.tuple #[.int .i64 (p : Int), .bool b]) ∧ Below w.heap.size w w' := by
  have HB := Lib.hid (nbin_any A n c k L w hA hl hu hn)
  clear hA hl hu
  go_enter Try.func54, Try.ntmps54
  go_wp2_with fail
  refine HB.out.mono ?_
  rintro e w1 ⟨p, b, hp, hq, rfl, hb⟩
  go_wp2
  go_ret2
  exact ⟨p, b, hp, hq, rfl, hb⟩
end Go.Proofs.Ytbecambkjmheiaa
