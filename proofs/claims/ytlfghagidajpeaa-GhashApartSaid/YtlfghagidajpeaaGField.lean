/- A product of two blocks is 0 just if one of both is: what is squared 128 times is as it was; what is its own square is 0 or 1. Nothing of the program. -/
import Derived.Test.YtlfghagidajpeaaGMath
namespace Go.Proofs.Ytlfghagidajpeaa

/-- So many times squared. -/
def gFk : Nat → Nat → Nat
  | 0, a => a
  | k + 1, a => gF (gFk k a)
theorem gFk_lt (k : Nat) {a : Nat} (h : a < B128) : gFk k a < B128 := by
  cases k with
  | zero => exact h
  | succ k =>
    have : ∀ k, gFk k a < B128 := by
      intro k
      induction k with
      | zero => exact h
      | succ k ih => exact gF_lt ih
    exact this _
theorem gFk_mul (k : Nat) {a b : Nat} (ha : a < B128) (hb : b < B128) : gFk k (gm a b) = gm (gFk k a) (gFk k b) := by
  induction k with
  | zero => rfl
  | succ k ih => rw [gFk, ih, gF_mul (gFk_lt k ha) (gFk_lt k hb)]; rfl
theorem gFk_add (k : Nat) {a b : Nat} (ha : a < B128) (hb : b < B128) : gFk k (a ^^^ b) = gFk k a ^^^ gFk k b := by
  induction k with
  | zero => rfl
  | succ k ih => rw [gFk, ih, gF_add (gFk_lt k ha) (gFk_lt k hb)]; rfl
theorem sq_table : sqT.getD 0 0 = 2 ∧ sqT.getD 128 0 = 2 ∧ ∀ k, k < 128 → gS 128 0 (sqT.getD k 0) (sqT.getD k 0) = sqT.getD (k + 1) 0 := by decide +kernel
theorem gFk_two (k : Nat) (h : k ≤ 128) : gFk k 2 = sqT.getD k 0 := by
  induction k with
  | zero => exact sq_table.1.symm
  | succ k ih => rw [gFk, ih (by omega), gF, gm_is, sq_table.2.2 k (by omega)]
/-- Additive below 2^128 is enough. -/
theorem below_ext {f g : Nat → Nat} (hf : ∀ a b, a < B128 → b < B128 → f (a ^^^ b) = f a ^^^ f b) (hg : ∀ a b, a < B128 → b < B128 → g (a ^^^ b) = g a ^^^ g b) (h : ∀ i, i < 128 → f (2 ^ i) = g (2 ^ i)) {x : Nat} (hx : x < B128) : f x = g x := by
  have key : ∀ k, k ≤ 128 → ∀ x, x < 2 ^ k → f x = g x := by
    intro k
    induction k with
    | zero =>
      intro _ x hx
      obtain rfl : x = 0 := by omega
      have z : ∀ {f : Nat → Nat}, (∀ a b, a < B128 → b < B128 → f (a ^^^ b) = f a ^^^ f b) → f 0 = 0 := by
        intro f hf
        have := hf 0 0 (by decide) (by decide)
        rw [Nat.xor_self] at this
        rw [this, Nat.xor_self]
      rw [z hf, z hg]
    | succ k ih =>
      intro hk x hx
      have hp : 2 ^ k < B128 := by rw [b128]; exact Nat.pow_lt_pow_right (by omega) (by omega)
      by_cases hlt : x < 2 ^ k
      · exact ih (by omega) x hlt
      · have hb : x ^^^ 2 ^ k < 2 ^ k := by
          apply Nat.lt_pow_two_of_testBit
          intro i hi
          rw [Nat.testBit_xor]
          by_cases e : i = k
          · subst e
            have : x.testBit i = true := by
              rw [Nat.testBit_eq_decide_div_mod_eq]
              have h1 : x / 2 ^ i = 1 := by
                apply Nat.div_eq_of_lt_le
                · omega
                · rw [Nat.pow_succ] at hx; omega
              rw [h1]; rfl
            rw [this, Nat.testBit_two_pow_self]
            rfl
          · rw [Nat.testBit_lt_two_pow (Nat.lt_of_lt_of_le hx (Nat.pow_le_pow_right (by omega) (by omega))), Nat.testBit_two_pow_of_ne (by omega)]
            rfl
        have e : x = (x ^^^ 2 ^ k) ^^^ 2 ^ k := by rw [Nat.xor_assoc, Nat.xor_self, Nat.xor_zero]
        rw [e, hf _ _ (Nat.lt_trans hb hp) hp, hg _ _ (Nat.lt_trans hb hp) hp, ih (by omega) _ hb, h k (by omega)]
  exact key 128 (Nat.le_refl _) x (by rw [← b128]; exact hx)
theorem two_gm {i : Nat} (h : i < 127) : gm (2 ^ i) 2 = 2 ^ (i + 1) := by
  have := gm_pow (i := 1) (2 ^ i) (by omega)
  rw [show (2 : Nat) ^ 1 = 2 from rfl] at this
  rw [this]
  exact gd_pow h
/-- What is squared 128 times is as it was. -/
theorem gFk_all {a : Nat} (h : a < B128) : gFk 128 a = a := by
  refine below_ext (f := gFk 128) (g := fun a => a) (fun a b ha hb => gFk_add 128 ha hb) (fun _ _ _ _ => rfl) (fun i hi => ?_) h
  have h2 : gFk 128 2 = 2 := by rw [gFk_two 128 (Nat.le_refl _)]; exact sq_table.2.1
  have h1 : ∀ k, gFk k 1 = 1 := by
    intro k
    induction k with
    | zero => rfl
    | succ k ih => rw [gFk, ih]; exact gm_one 1
  show gFk 128 (2 ^ i) = 2 ^ i
  induction i with
  | zero => exact h1 128
  | succ i ih =>
    have hp : 2 ^ i < B128 := by rw [b128]; exact Nat.pow_lt_pow_right (by omega) (by omega)
    rw [← two_gm (by omega), gFk_mul 128 hp (by decide), ih (by omega), h2]
/-- A block by a table's rows. -/
def rowsL : List Nat → Nat → Nat
  | [], _ => 0
  | t :: l, a => sel (a.testBit 0) t ^^^ rowsL l (a / 2)
theorem lin_rows (l : List Nat) : Lin (rowsL l) := by
  induction l with
  | nil => exact Lin.none
  | cons t l ih => exact Lin.add (f := fun a => sel (a.testBit 0) t) (Lin.bit 0 t) (Lin.comp (f := rowsL l) ih lin_half)
def rowsS : List Nat → Nat → Nat → Nat
  | [], p, _ => p
  | t :: l, p, a => strict (p ^^^ sel (a.testBit 0) t) fun p' => strict (a / 2) fun a' => rowsS l p' a'
theorem rowsS_is (l : List Nat) : ∀ p a, rowsS l p a = p ^^^ rowsL l a := by
  induction l with
  | nil => intro p a; exact (Nat.xor_zero p).symm
  | cons t l ih => intro p a; rw [rowsS, strict_is, strict_is, ih, rowsL, Nat.xor_assoc]
theorem un_table : ∀ i, i < 128 → strict (gS 128 0 (2 ^ i) (2 ^ i)) (fun s => rowsS unT 0 (s ^^^ 2 ^ i)) = 2 ^ i ^^^ (2 ^ i % 2) := by decide +kernel
/-- What is its own square is 0 or 1. -/
theorem gF_own {e : Nat} (he : e < B128) (h : gF e = e) : e = 0 ∨ e = 1 := by
  have key : rowsL unT (gF e ^^^ e) = e ^^^ (e % 2) := by
    refine below_ext (f := fun e => rowsL unT (gF e ^^^ e)) (g := fun e => e ^^^ (e % 2)) (fun a b ha hb => ?_) (fun a b _ _ => ?_) (fun i hi => ?_) he
    · show rowsL unT (gF (a ^^^ b) ^^^ (a ^^^ b)) = rowsL unT (gF a ^^^ a) ^^^ rowsL unT (gF b ^^^ b)
      rw [gF_add ha hb, xor4, lin_rows]
    · show (a ^^^ b) ^^^ ((a ^^^ b) % 2) = (a ^^^ (a % 2)) ^^^ (b ^^^ (b % 2))
      have : (a ^^^ b) % 2 = (a % 2) ^^^ (b % 2) := lin_mod 1 a b
      rw [this, xor4]
    · have := un_table i hi
      rw [strict_is, rowsS_is, Nat.zero_xor, ← gm_is] at this
      exact this
  rw [h, Nat.xor_self, (lin_rows unT).zero] at key
  have h2 : e = e % 2 := by
    have : e ^^^ (e ^^^ (e % 2)) = e ^^^ 0 := by rw [← key]
    rw [← Nat.xor_assoc, Nat.xor_self, Nat.zero_xor, Nat.xor_zero] at this
    exact this.symm
  omega
/-- A block to the power 2^k - 1. -/
def gE (a : Nat) : Nat → Nat
  | 0 => 1
  | k + 1 => gm (gF (gE a k)) a
theorem gE_lt {a : Nat} (k : Nat) : gE a k < B128 := by
  induction k with
  | zero => exact (by decide : (1 : Nat) < B128)
  | succ k ih => exact gm_lt a (gF_lt ih)
theorem gE_up {a : Nat} (h : a < B128) (k : Nat) : gm a (gE a k) = gFk k a := by
  induction k with
  | zero => exact gm_one a
  | succ k ih =>
    have hF := gF_lt (gE_lt (a := a) k)
    rw [gE, gm_comm h (gm_lt a hF), gm_assoc hF h h]
    show gm (gF (gE a k)) (gF a) = _
    rw [← gF_mul (gE_lt k) h, gm_comm (gE_lt k) h, ih]
    rfl
/-- A product is 0 just if one of both is. -/
theorem gm_none {a b : Nat} (ha : a < B128) (hb : b < B128) (h : gm a b = 0) : a = 0 ∨ b = 0 := by
  have hF := gF_lt (gE_lt (a := a) 127)
  have he := gE_lt (a := a) 128
  have h1 : gm a (gE a 128) = a := by rw [gE_up ha, gFk_all ha]
  have hq : gE a 128 = gm (gF (gE a 127)) a := rfl
  have h2 : gF (gE a 128) = gE a 128 := by
    show gm (gE a 128) (gE a 128) = gE a 128
    have : gm (gm (gF (gE a 127)) a) (gE a 128) = gm (gF (gE a 127)) a := by rw [gm_assoc hF ha he, h1]
    rw [← hq] at this
    exact this
  have h3 : gm (gE a 128) b = 0 := by rw [hq, gm_assoc hF ha hb, h, gm_zero]
  rcases gF_own he h2 with e | e
  · left
    rw [e, gm_zero] at h1
    exact h1.symm
  · right
    rw [e, one_gm hb] at h3
    exact h3
end Go.Proofs.Ytlfghagidajpeaa
