/- A device in plain lists: sectors and a cache; whether it may be, what is read, what stays. Nothing of any function. -/
import Derived.Test.YtiibgbdhbamajaaMem
namespace Go.Proofs.Ytiibgbdhbamajaa

/-- A text put in a sector's place. -/
abbrev PutL := Int × List UInt8
/-- Whether there is a sector of that number, of n. -/
def hasB (n : Nat) (k : Int) : Bool := decide (0 ≤ k) && decide (k < (n : Int))
theorem hasB_iff (n : Nat) (k : Int) : hasB n k = true ↔ 0 ≤ k ∧ k < (n : Int) := by simp [hasB]
theorem hasB_not (n : Nat) (k : Int) : hasB n k = false ↔ ¬ (0 ≤ k ∧ k < (n : Int)) := by
  rw [← hasB_iff]; simp
/-- Whether a text in a cache may be, of n sectors. -/
def okB (n : Nat) (p : PutL) : Bool := hasB n p.1 && decide (p.2.length ≤ 128)
/-- Whether a device may be. -/
def rightB (S : List (List UInt8)) (C : List PutL) : Bool := (decide (1 ≤ S.length) && decide (S.length ≤ 64) && decide (C.length ≤ 60)) && (S.all (fun s => decide (s.length ≤ 128)) && C.all (okB S.length))
theorem rightB_yes {S : List (List UInt8)} {C : List PutL} (h : rightB S C = true) : 1 ≤ S.length ∧ S.length ≤ 64 ∧ C.length ≤ 60 ∧ (∀ s ∈ S, s.length ≤ 128) ∧ ∀ p ∈ C, 0 ≤ p.1 ∧ p.1 < (S.length : Int) ∧ p.2.length ≤ 128 := by
  simp [rightB, okB, hasB] at h
  obtain ⟨⟨⟨h1, h2⟩, h3⟩, h4, h5⟩ := h
  refine ⟨h1, h2, h3, h4, fun p hp => ?_⟩
  obtain ⟨⟨a, b⟩, c⟩ := h5 p.1 p.2 hp
  exact ⟨a, b, c⟩
theorem rightB_mk {S : List (List UInt8)} {C : List PutL} (h : 1 ≤ S.length ∧ S.length ≤ 64 ∧ C.length ≤ 60 ∧ (∀ s ∈ S, s.length ≤ 128) ∧ ∀ p ∈ C, 0 ≤ p.1 ∧ p.1 < (S.length : Int) ∧ p.2.length ≤ 128) : rightB S C = true := by
  obtain ⟨h1, h2, h3, h4, h5⟩ := h
  simp [rightB, okB, hasB]
  exact ⟨⟨⟨h1, h2⟩, h3⟩, h4, fun a b hp => ⟨⟨(h5 _ hp).1, (h5 _ hp).2.1⟩, (h5 _ hp).2.2⟩⟩
theorem getD_all {α : Type} (f : α → Bool) (d : α) (L : List α) (h : ∀ j, j < L.length → f (L.getD j d) = true) : L.all f = true := by
  rw [List.all_eq_true]
  intro x hx
  obtain ⟨j, hj, rfl⟩ := List.getElem_of_mem hx
  have := h j hj
  simpa [List.getD, hj] using this
theorem getD_not {α : Type} (f : α → Bool) (d : α) (L : List α) (j : Nat) (hj : j < L.length) (h : f (L.getD j d) = false) : L.all f = false := by
  rw [Bool.eq_false_iff, ne_eq, List.all_eq_true]
  intro ha
  have := ha (L.getD j d) (by simp [List.getD, hj])
  rw [h] at this; cases this

/-- A sector read. -/
def readD (S : List (List UInt8)) (C : List PutL) (k : Nat) : List UInt8 := C.foldl (fun s p => if p.1 = (k : Int) then p.2 else s) (S.getD k [])
theorem readD_none (S : List (List UInt8)) (k : Nat) : readD S [] k = S.getD k [] := rfl
theorem readD_more (S : List (List UInt8)) (C : List PutL) (p : PutL) (k : Nat) : readD S (C ++ [p]) k = if p.1 = (k : Int) then p.2 else readD S C k := by simp [readD]
/-- Those of a cache whose bits are 1. -/
def keptD : Nat → List PutL → List PutL
  | _, [] => []
  | k, p :: C => (if k % 2 = 1 then [p] else []) ++ keptD (k / 2) C
theorem keptD_none (C : List PutL) : keptD 0 C = [] := by
  induction C with
  | nil => rfl
  | cons p C ih => rw [keptD, Nat.zero_div, ih]; rfl
theorem keptD_all : ∀ (n : Nat) (C : List PutL), C.length ≤ n → keptD (2 ^ n - 1) C = C := by
  intro n
  induction n with
  | zero => intro C h; cases C with
    | nil => rfl
    | cons p C => simp at h
  | succ n ih =>
    intro C h
    cases C with
    | nil => rfl
    | cons p C =>
      have h1 : (2 ^ (n + 1) - 1) % 2 = 1 := by have := Nat.two_pow_pos n; rw [Nat.pow_succ]; omega
      have h2 : (2 ^ (n + 1) - 1) / 2 = 2 ^ n - 1 := by have := Nat.two_pow_pos n; rw [Nat.pow_succ]; omega
      rw [keptD, if_pos h1, h2, ih C (by simpa using h)]
      rfl
theorem keptD_in : ∀ (C : List PutL) (k : Nat), ∀ p ∈ keptD k C, p ∈ C := by
  intro C
  induction C with
  | nil => intro k p hp; exact hp
  | cons q C ih =>
    intro k p hp
    rw [keptD] at hp
    rcases List.mem_append.1 hp with h | h
    · split at h
      · rw [List.mem_singleton.1 h]; exact List.mem_cons_self
      · cases h
    · exact List.mem_cons_of_mem _ (ih _ p h)
theorem keptD_len : ∀ (C : List PutL) (k : Nat), (keptD k C).length ≤ C.length := by
  intro C
  induction C with
  | nil => intro k; exact Nat.le_refl _
  | cons q C ih =>
    intro k
    have := ih (k / 2)
    rw [keptD, List.length_append, List.length_cons]
    split <;> simp <;> omega
theorem keptD_more : ∀ (C : List PutL) (k : Nat) (p : PutL), keptD k (C ++ [p]) = keptD k C ++ (if k / 2 ^ C.length % 2 = 1 then [p] else []) := by
  intro C
  induction C with
  | nil => intro k p; simp [keptD]
  | cons q C ih =>
    intro k p
    rw [List.cons_append, keptD, keptD, ih (k / 2) p, List.append_assoc, Nat.div_div_eq_div_mul, List.length_cons, Nat.pow_succ, Nat.mul_comm 2]
theorem keptD_take (C : List PutL) (k i : Nat) (h : i < C.length) : keptD k (C.take (i + 1)) = keptD k (C.take i) ++ (if k / 2 ^ i % 2 = 1 then [C.getD i (0, [])] else []) := by
  rw [List.take_succ_eq_append_getElem h, keptD_more, List.length_take, Nat.min_eq_left (by omega)]
  simp [List.getD, h]
theorem keptD_pre (C : List PutL) (k i j : Nat) : keptD k (C.take i) <+: keptD k (C.take (i + j)) := by
  induction j with
  | zero => exact List.prefix_refl _
  | succ j ih =>
    refine ih.trans ?_
    by_cases h : i + j < C.length
    · rw [← Nat.add_assoc, keptD_take C k (i + j) h]; exact List.prefix_append _ _
    · rw [List.take_of_length_le (by omega), List.take_of_length_le (by omega)]; exact List.prefix_refl _
theorem keptD_pre' (C : List PutL) (k i : Nat) (h : i ≤ C.length) : keptD k (C.take i) <+: keptD k C := by
  have := keptD_pre C k i (C.length - i)
  rwa [Nat.add_sub_cancel' h, List.take_length] at this
/-- The store, each sector as it is read. -/
def storeD (S : List (List UInt8)) (C : List PutL) : List (List UInt8) := (List.range S.length).map (readD S C)
theorem storeD_len (S : List (List UInt8)) (C : List PutL) : (storeD S C).length = S.length := by simp [storeD]
theorem storeD_at (S : List (List UInt8)) (C : List PutL) {k : Nat} (h : k < S.length) : (storeD S C).getD k [] = readD S C k := by simp [storeD, List.getD, h]
theorem storeD_take (S : List (List UInt8)) (C : List PutL) {k : Nat} (h : k < S.length) : (storeD S C).take (k + 1) = (storeD S C).take k ++ [readD S C k] := by
  rw [List.take_succ_eq_append_getElem (by rw [storeD_len]; exact h)]
  simp [storeD]
theorem list_getD_ext {A B : List (List UInt8)} {n : Nat} (ha : A.length = n) (hb : B.length = n) (h : ∀ k, k < n → A.getD k [] = B.getD k []) : A = B := by
  apply List.ext_getElem
  · rw [ha, hb]
  · intro i h1 h2
    have := h i (by omega)
    simpa [List.getD, h1, h2] using this
theorem storeD_none (S : List (List UInt8)) : storeD S [] = S := list_getD_ext (storeD_len _ _) rfl fun k hk => by rw [storeD_at _ _ hk]; rfl
/-- One put behind the other. -/
def putsD (S : List (List UInt8)) (C : List PutL) : List (List UInt8) := C.foldl (fun S p => S.set p.1.toNat p.2) S
theorem putsD_more (S : List (List UInt8)) (C : List PutL) (p : PutL) : putsD S (C ++ [p]) = (putsD S C).set p.1.toNat p.2 := by simp [putsD]
theorem putsD_len (S : List (List UInt8)) (C : List PutL) : (putsD S C).length = S.length := by
  induction C generalizing S with
  | nil => rfl
  | cons p C ih => simp only [putsD, List.foldl_cons] at ih ⊢; rw [ih]; simp
theorem storeD_more (S : List (List UInt8)) (C : List PutL) (p : PutL) (hp : 0 ≤ p.1) : storeD S (C ++ [p]) = (storeD S C).set p.1.toNat p.2 := by
  refine list_getD_ext (n := S.length) (storeD_len _ _) (by rw [List.length_set, storeD_len]) fun k hk => ?_
  rw [storeD_at _ _ hk, readD_more]
  by_cases h : p.1 = (k : Int)
  · have h2 : p.1.toNat = k := by omega
    have h3 : k < (storeD S C).length := by rw [storeD_len]; exact hk
    rw [if_pos h, h2]
    simp [List.getD, h3]
  · have h2 : ¬ p.1.toNat = k := by omega
    rw [if_neg h, ← storeD_at S C hk]
    simp [List.getD, h2]
/-- What stays, put by put, is each sector as it is read. -/
theorem putsD_is (S : List (List UInt8)) (C : List PutL) (hC : ∀ p ∈ C, 0 ≤ p.1) : putsD S C = storeD S C := by
  have key : ∀ n, n ≤ C.length → putsD S (C.take n) = storeD S (C.take n) := by
    intro n
    induction n with
    | zero => intro _; rw [List.take_zero, storeD_none]; rfl
    | succ n ih => intro h; rw [← List.take_append_getElem (by omega), putsD_more, storeD_more _ _ _ (hC _ (List.getElem_mem _)), ih (by omega)]
  have := key C.length (Nat.le_refl _)
  rwa [List.take_length] at this
/-- Of each sector one that was written to it stays, or what was in the store. -/
theorem readD_some (S : List (List UInt8)) (k : Nat) (C : List PutL) : readD S C k = S.getD k [] ∨ ∃ p ∈ C, p.1 = (k : Int) ∧ p.2 = readD S C k := by
  have key : ∀ n, n ≤ C.length → readD S (C.take n) k = S.getD k [] ∨ ∃ p ∈ C, p.1 = (k : Int) ∧ p.2 = readD S (C.take n) k := by
    intro n
    induction n with
    | zero => intro _; exact .inl rfl
    | succ n ih =>
      intro h
      rw [← List.take_append_getElem (by omega), readD_more]
      by_cases he : C[n].1 = (k : Int)
      · rw [if_pos he]; exact .inr ⟨C[n], List.getElem_mem _, he, rfl⟩
      · rw [if_neg he]; exact ih (by omega)
  have := key C.length (Nat.le_refl _)
  rwa [List.take_length] at this
theorem kept_some (S : List (List UInt8)) (k m : Nat) (C : List PutL) : readD S (keptD m C) k = S.getD k [] ∨ ∃ p ∈ C, p.1 = (k : Int) ∧ p.2 = readD S (keptD m C) k := by
  rcases readD_some S k (keptD m C) with h | ⟨p, hp, h⟩
  · exact .inl h
  · exact .inr ⟨p, keptD_in _ _ p hp, h⟩
theorem readD_take (S : List (List UInt8)) (C : List PutL) (k i : Nat) (h : i < C.length) : readD S (C.take (i + 1)) k = if (C.getD i (0, [])).1 = (k : Int) then (C.getD i (0, [])).2 else readD S (C.take i) k := by
  rw [List.take_succ_eq_append_getElem h, readD_more]
  simp [List.getD, h]
/-- From behind: the last one of a sector is what is read. -/
theorem readD_last (S : List (List UInt8)) (C : List PutL) (k i : Nat) (h : i < C.length) (he : (C.getD i (0, [])).1 = (k : Int)) (hn : ∀ j, i < j → j < C.length → (C.getD j (0, [])).1 ≠ (k : Int)) : readD S C k = (C.getD i (0, [])).2 := by
  have key : ∀ d, i + 1 + d ≤ C.length → readD S (C.take (i + 1 + d)) k = (C.getD i (0, [])).2 := by
    intro d
    induction d with
    | zero => intro _; rw [Nat.add_zero, readD_take S C k i h, if_pos he]
    | succ d ih => intro hd; rw [← Nat.add_assoc, readD_take S C k (i + 1 + d) (by omega), if_neg (hn _ (by omega) (by omega)), ih (by omega)]
  have := key (C.length - (i + 1)) (by omega)
  rwa [show i + 1 + (C.length - (i + 1)) = C.length by omega, List.take_length] at this
theorem readD_not (S : List (List UInt8)) (C : List PutL) (k : Nat) (hn : ∀ j, j < C.length → (C.getD j (0, [])).1 ≠ (k : Int)) : readD S C k = S.getD k [] := by
  have key : ∀ d, d ≤ C.length → readD S (C.take d) k = S.getD k [] := by
    intro d
    induction d with
    | zero => intro _; rfl
    | succ d ih => intro hd; rw [readD_take S C k d (by omega), if_neg (hn _ (by omega)), ih (by omega)]
  have := key C.length (Nat.le_refl _)
  rwa [List.take_length] at this
end Go.Proofs.Ytiibgbdhbamajaa
