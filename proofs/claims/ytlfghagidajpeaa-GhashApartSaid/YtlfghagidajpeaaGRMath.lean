/- The reference's long product in plain numbers: it is the product. Nothing of any function. -/
import Derived.Test.YtlfghagidajpeaaGBits
namespace Go.Proofs.Ytlfghagidajpeaa

/-- Odd or not: how many of the first so many are true. -/
def par : Nat → (Nat → Bool) → Bool
  | 0, _ => false
  | n + 1, f => par n f ^^ f n
theorem par_xor (n : Nat) (f g : Nat → Bool) : par n (fun i => f i ^^ g i) = (par n f ^^ par n g) := by
  induction n with
  | zero => rfl
  | succ n ih =>
    rw [par, ih, par, par]
    cases par n f <;> cases par n g <;> cases f n <;> cases g n <;> rfl
theorem par_one (n k : Nat) (g : Nat → Bool) : par n (fun i => decide (i = k) && g i) = (decide (k < n) && g k) := by
  induction n with
  | zero => simp [par]
  | succ n ih =>
    rw [par, ih]
    by_cases h : n = k
    · subst h
      simp
    · have h2 : (k < n + 1) ↔ (k < n) := by omega
      simp [h, h2]
theorem par_ext {n : Nat} {f g : Nat → Bool} (h : ∀ i, i < n → f i = g i) : par n f = par n g := by
  induction n with
  | zero => rfl
  | succ n ih => rw [par, par, ih (fun i hi => h i (by omega)), h n (by omega)]
/-- One of the long product's bits: so many of its rounds. -/
def lonT (A B p i : Nat) : Bool := decide (i ≤ p) && decide (p < i + 128) && A.testBit i && B.testBit (p - i)
def lon (A B p : Nat) : Bool := par 128 (lonT A B p)
theorem lon_left (A A' B p : Nat) : lon (A ^^^ A') B p = (lon A B p ^^ lon A' B p) := by
  unfold lon
  rw [← par_xor]
  refine par_ext fun i _ => ?_
  unfold lonT
  rw [Nat.testBit_xor]
  cases decide (i ≤ p) <;> cases decide (p < i + 128) <;> cases A.testBit i <;> cases A'.testBit i <;> cases B.testBit (p - i) <;> rfl
theorem lon_right (A B B' p : Nat) : lon A (B ^^^ B') p = (lon A B p ^^ lon A B' p) := by
  unfold lon
  rw [← par_xor]
  refine par_ext fun i _ => ?_
  unfold lonT
  rw [Nat.testBit_xor]
  cases decide (i ≤ p) <;> cases decide (p < i + 128) <;> cases A.testBit i <;> cases B.testBit (p - i) <;> cases B'.testBit (p - i) <;> rfl
theorem lon_two {i j : Nat} (hi : i < 128) (hj : j < 128) (p : Nat) : lon (2 ^ i) (2 ^ j) p = decide (p = i + j) := by
  unfold lon
  have : ∀ k, k < 128 → lonT (2 ^ i) (2 ^ j) p k = (decide (k = i) && decide (p = i + j)) := by
    intro k _
    unfold lonT
    rw [Nat.testBit_two_pow, Nat.testBit_two_pow]
    by_cases h : k = i
    · subst h
      by_cases h2 : p = k + j
      · subst h2
        have h3 : k ≤ k + j := by omega
        have h4 : k + j < k + 128 := by omega
        have h5 : j = k + j - k := by omega
        simp [h3, h4, ← h5]
      · by_cases h3 : k ≤ p
        · have h5 : ¬ j = p - k := by omega
          simp [h2, h5]
        · simp [h2, h3]
    · have h3 : ¬ i = k := fun e => h e.symm
      simp [h, h3]
  rw [par_ext this, par_one]
  simp [hi]
/-- What a row of bits tells: the bit p is that of x^p. -/
def val : Nat → (Nat → Bool) → Nat
  | 0, _ => 0
  | n + 1, f => val n f ^^^ sel (f n) (gX n 1)
theorem val_xor (n : Nat) (f g : Nat → Bool) : val n (fun i => f i ^^ g i) = val n f ^^^ val n g := by
  induction n with
  | zero => exact (Nat.xor_self 0).symm
  | succ n ih => rw [val, ih, val, val, sel_bits, xor4]
theorem val_one (n k : Nat) : val n (fun i => decide (i = k)) = sel (decide (k < n)) (gX k 1) := by
  induction n with
  | zero => simp [val, sel]
  | succ n ih =>
    rw [val, ih]
    by_cases h : n = k
    · subst h
      simp [sel]
    · have h2 : (k < n + 1) ↔ (k < n) := by omega
      simp [h, h2, sel]
theorem val_ext {n : Nat} {f g : Nat → Bool} (h : ∀ i, i < n → f i = g i) : val n f = val n g := by
  induction n with
  | zero => rfl
  | succ n ih => rw [val, val, ih (fun i hi => h i (by omega)), h n (by omega)]
theorem val_lon_two {i j : Nat} (hi : i < 128) (hj : j < 128) : val 255 (lon (2 ^ i) (2 ^ j)) = gm (2 ^ i) (2 ^ j) := by
  rw [val_ext (g := fun p => decide (p = i + j)) (fun p _ => lon_two hi hj p), val_one, gm_pow _ hj, ← gX_one hi, ← gX_add, Nat.add_comm j i]
  have : i + j < 255 := by omega
  simp [this, sel]
/-- The long product tells the product. -/
theorem val_lon {A B : Nat} (hA : A < B128) (hB : B < B128) : val 255 (lon A B) = gm A B :=
  block_ext (f := fun A => val 255 (lon A B)) (g := fun A => gm A B) (fun a b => by
    show val 255 (lon (a ^^^ b) B) = val 255 (lon a B) ^^^ val 255 (lon b B)
    rw [← val_xor]
    exact val_ext fun p _ => lon_left a b B p) (gm_left B) (fun i hi =>
    block_ext (f := fun B => val 255 (lon (2 ^ i) B)) (g := fun B => gm (2 ^ i) B) (fun a b => by
      show val 255 (lon (2 ^ i) (a ^^^ b)) = val 255 (lon (2 ^ i) a) ^^^ val 255 (lon (2 ^ i) b)
      rw [← val_xor]
      exact val_ext fun p _ => lon_right _ a b p) (gm_right (2 ^ i)) (fun j hj => val_lon_two hi hj) B hB) A hA
/-- One bit turned. -/
def flipF (f : Nat → Bool) (i : Nat) : Nat → Bool := fun q => f q ^^ decide (q = i)
theorem val_flip {n i : Nat} (f : Nat → Bool) (h : i < n) : val n (flipF f i) = val n f ^^^ gX i 1 := by
  unfold flipF
  rw [val_xor, val_one]
  simp [h, sel]
def stepF (f : Nat → Bool) (p : Nat) : Nat → Bool := if f p then flipF (flipF (flipF (flipF f (p - 128)) (p - 127)) (p - 126)) (p - 121) else f
theorem gX_over : gX 128 1 = gX 0 1 ^^^ gX 1 1 ^^^ gX 2 1 ^^^ gX 7 1 := by
  rw [show gX 128 1 = gd (gX 127 1) from rfl, gX_one (i := 127) (by omega), gX_one (i := 0) (by omega), gX_one (i := 1) (by omega), gX_one (i := 2) (by omega), gX_one (i := 7) (by omega)]
  decide +kernel
theorem gX_left {p : Nat} (h : 128 ≤ p) : gX p 1 = gX (p - 128) 1 ^^^ gX (p - 127) 1 ^^^ gX (p - 126) 1 ^^^ gX (p - 121) 1 := by
  obtain ⟨d, rfl⟩ : ∃ d, p = d + 128 := ⟨p - 128, by omega⟩
  rw [gX_add, gX_over, lin_gX d, lin_gX d, lin_gX d, ← gX_add, ← gX_add, ← gX_add, ← gX_add, show d + 128 - 128 = d + 0 by omega, show d + 128 - 127 = d + 1 by omega, show d + 128 - 126 = d + 2 by omega, show d + 128 - 121 = d + 7 by omega]
theorem val_step (f : Nat → Bool) {p : Nat} (h : 128 ≤ p) : val p (stepF f p) = val (p + 1) f := by
  unfold stepF
  rw [val]
  cases hp : f p
  · simp [sel]
  · rw [if_pos rfl, val_flip _ (by omega), val_flip _ (by omega), val_flip _ (by omega), val_flip _ (by omega)]
    show _ = val p f ^^^ gX p 1
    rw [gX_left h, Nat.xor_assoc, Nat.xor_assoc, Nat.xor_assoc, Nat.xor_assoc, Nat.xor_assoc]
/-- The row after so many of the steps down. -/
def down (f : Nat → Bool) : Nat → Nat → Bool
  | 0 => f
  | j + 1 => stepF (down f j) (254 - j)
theorem val_down (f : Nat → Bool) (j : Nat) (h : j ≤ 127) : val (255 - j) (down f j) = val 255 f := by
  induction j with
  | zero => rfl
  | succ j ih =>
    rw [down, show 255 - (j + 1) = 254 - j by omega, val_step _ (by omega), show 254 - j + 1 = 255 - j by omega]
    exact ih (by omega)
theorem val_short (f : Nat → Bool) : ∀ n, n ≤ 128 → val n f = mkN n f := by
  intro n
  induction n with
  | zero => intro _; rfl
  | succ n ih =>
    intro h
    rw [val, mkN, ih (by omega), gX_one (by omega)]
    refine bits_ext (n := n + 1) (Nat.xor_lt_two_pow (Nat.lt_of_lt_of_le (mkN_lt n f) (Nat.pow_le_pow_right (by omega) (by omega))) (sel_lt (Nat.two_pow_pos _) (Nat.pow_lt_pow_right (by omega) (by omega)))) (Nat.or_lt_two_pow (Nat.lt_of_lt_of_le (mkN_lt n f) (Nat.pow_le_pow_right (by omega) (by omega))) (sel_lt (Nat.two_pow_pos _) (Nat.pow_lt_pow_right (by omega) (by omega)))) fun i hi => ?_
    rw [Nat.testBit_xor, Nat.testBit_or, mkN_bit]
    cases hf : f n
    · simp [sel]
    · simp only [sel, cond_true]
      rw [Nat.testBit_two_pow]
      by_cases h1 : i < n
      · have : ¬ n = i := by omega
        simp [this]
      · simp [h1]
/-- The reference's product is the product. -/
theorem down_is {A B : Nat} (hA : A < B128) (hB : B < B128) : mkN 128 (down (lon A B) 127) = gm A B := by
  rw [← val_short _ 128 (Nat.le_refl _), ← val_lon hA hB]
  exact val_down _ 127 (Nat.le_refl _)
/-- A byte's reckoning out of its bits, the highest first. -/
def byF (g : Nat → Bool) : Nat → Nat
  | 0 => 0
  | k + 1 => 2 * byF g k + (if g k then 1 else 0)
theorem byF_is (g : Nat → Bool) : ∀ k, byF g k = mkN k (fun t => g (k - 1 - t)) := by
  intro k
  induction k with
  | zero => rfl
  | succ k ih =>
    have hb : byF g k < 2 ^ k := by rw [ih]; exact mkN_lt _ _
    refine bits_ext (n := k + 1) ?_ (mkN_lt _ _) fun i hi => ?_
    · rw [byF, Nat.pow_succ]; split <;> omega
    · rw [mkN_at hi, byF]
      cases i with
      | zero =>
        rw [Nat.testBit_zero]
        cases hg : g k <;> simp [hg] <;> omega
      | succ i =>
        rw [Nat.testBit_succ, show (2 * byF g k + if g k then 1 else 0) / 2 = byF g k by split <;> omega, ih, mkN_at (by omega)]
        congr 1
        omega
theorem byF_lt (g : Nat → Bool) (k : Nat) : byF g k < 2 ^ k := by rw [byF_is]; exact mkN_lt _ _
theorem byF_by8 (f : Nat → Bool) {i : Nat} (h : i < 16) : byF (fun k => f (8 * i + k)) 8 = (by8 (mkN 128 f) i).toNat := by
  rw [byF_is, by8_nat]
  refine mkN_ext fun t ht => ?_
  rw [mkN_at (by omega)]
  show f (8 * i + (8 - 1 - t)) = _
  congr 1
  omega
end Go.Proofs.Ytlfghagidajpeaa
