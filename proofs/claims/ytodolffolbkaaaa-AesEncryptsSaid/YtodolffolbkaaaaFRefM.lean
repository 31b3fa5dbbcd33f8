/- The reference's product, inverse and box in plain numbers, and that they are the code's. -/
import Derived.Test.YtodolffolbkaaaaFMath
namespace Go.Proofs.Ytodolffolbkaaaa

/-- The long product, of so many bits. -/
def longN (a b : Nat) : Nat → Nat
  | 0 => 0
  | k + 1 => longN a b k ^^^ sel (b.testBit k) (a * 2 ^ k)
/-- What is left of it behind so many steps. -/
def leftN (n : Nat) : Nat → Nat
  | 0 => n
  | j + 1 => leftN n j ^^^ sel ((leftN n j).testBit (14 - j)) (283 * 2 ^ (6 - j))
theorem lin_longL (b k : Nat) : Lin fun a => longN a b k := by
  induction k with
  | zero => exact Lin.none
  | succ k ih => exact Lin.add (f := fun a => longN a b k) ih (Lin.sel (f := fun a => a * 2 ^ k) (lin_mul k) _)
theorem lin_longR (a k : Nat) : Lin fun b => longN a b k := by
  induction k with
  | zero => exact Lin.none
  | succ k ih => exact Lin.add (f := fun b => longN a b k) ih (Lin.bit k _)
theorem lin_leftN (j : Nat) : Lin fun n => leftN n j := by
  induction j with
  | zero => exact Lin.self
  | succ j ih => exact Lin.add (f := fun n => leftN n j) ih (Lin.comp (f := fun m => sel (m.testBit (14 - j)) (283 * 2 ^ (6 - j))) (Lin.bit _ _) ih)
def rm (a b : Nat) : Nat := leftN (longN a b 8) 7 % 256
theorem rm_is {a b : Nat} (ha : a < 256) (hb : b < 256) : rm a b = cm a b := by
  have key : ∀ i, i < 8 → ∀ j, j < 8 → rm (2 ^ i) (2 ^ j) = cm (2 ^ i) (2 ^ j) := by decide +kernel
  have hl : ∀ b, Lin fun a => rm a b := fun b => Lin.comp (f := fun n => leftN n 7 % 256) (Lin.comp (f := fun n => n % 256) (lin_mod 8) (lin_leftN 7)) (lin_longL b 8)
  have hr : ∀ a, Lin fun b => rm a b := fun a => Lin.comp (f := fun n => leftN n 7 % 256) (Lin.comp (f := fun n => n % 256) (lin_mod 8) (lin_leftN 7)) (lin_longR a 8)
  exact byte_ext (f := fun a => rm a b) (g := fun a => cm a b) (hl b) (cm_left b) (fun i hi =>
    byte_ext (f := fun b => rm (2 ^ i) b) (g := fun b => cm (2 ^ i) b) (hr _) (cm_right _) (key i hi) b hb) a ha
theorem xor_lt15 {a b : Nat} (h : a < 32768) (k : b < 32768) : a ^^^ b < 32768 := Nat.xor_lt_two_pow (n := 15) h k
theorem mul_pow_le (a k m : Nat) (ha : a ≤ 283) (hk : k ≤ m) : a * 2 ^ k ≤ 283 * 2 ^ m := Nat.mul_le_mul ha (Nat.pow_le_pow_right (by omega) hk)
theorem longN_lt {a : Nat} (ha : a < 256) (b k : Nat) (hk : k ≤ 8) : longN a b k < 32768 := by
  induction k with
  | zero => exact (by decide : (0 : Nat) < 32768)
  | succ k ih =>
    have h1 : a * 2 ^ k ≤ 255 * 2 ^ 7 := Nat.mul_le_mul (by omega) (Nat.pow_le_pow_right (by omega) (by omega))
    exact xor_lt15 (ih (by omega)) (sel_lt (by omega) (by omega))
theorem leftN_lt {n : Nat} (hn : n < 32768) (j : Nat) (hj : j ≤ 7) : leftN n j < 32768 := by
  induction j with
  | zero => exact hn
  | succ j ih =>
    have h1 := mul_pow_le 283 (6 - j) 6 (by omega) (by omega)
    exact xor_lt15 (ih (by omega)) (sel_lt (by omega) (by omega))

/-- A byte's box, so many bits of it. -/
def sumB (b i : Nat) : Nat := b / 2 ^ i % 2 + b / 2 ^ ((i + 4) % 8) % 2 + b / 2 ^ ((i + 5) % 8) % 2 + b / 2 ^ ((i + 6) % 8) % 2 + b / 2 ^ ((i + 7) % 8) % 2 + 99 / 2 ^ i % 2
def rbox (b : Nat) : Nat → Nat
  | 0 => 0
  | k + 1 => rbox b k + sumB b k % 2 * 2 ^ k
theorem rbox_lt (b k : Nat) : rbox b k < 2 ^ k := by
  induction k with
  | zero => exact (by decide : (0 : Nat) < 1)
  | succ k ih =>
    rw [rbox, Nat.pow_succ]
    rcases Nat.mod_two_eq_zero_or_one (sumB b k) with h | h <;> rw [h] <;> omega
theorem rbox_is {b : Nat} (h : b < 256) : rbox b 8 = boxI b := by
  have key : ∀ b, b < 256 → rbox b 8 = boxI b := by decide +kernel
  exact key b h
theorem box_of {a : Nat} (h : a < 256) : boxI (inv a) = box a := (box_all a h).1
theorem box_lt {a : Nat} (h : a < 256) : box a < 256 := (box_all a h).2.1
theorem rbox_inv {a : Nat} (h : a < 256) : rbox (inv a) 8 = box a := by rw [rbox_is (inv_lt h), box_of h]
end Go.Proofs.Ytodolffolbkaaaa
