/- Blocks as polynomials over 0 and 1, divided by x^128 + x^7 + x^2 + x + 1, in plain numbers (bit i is that of x^i): a field. Nothing of the program. -/
import Derived.Test.YtlfghagidajpeaaGTab
import Derived.Test.YtlfghagidajpeaaFMath
namespace Go.Proofs.Ytlfghagidajpeaa

abbrev B128 : Nat := 340282366920938463463374607431768211456
theorem b128 : B128 = 2 ^ 128 := by decide
/-- A block times x. -/
def gd (a : Nat) : Nat := (a % 170141183460469231731687303715884105728 * 2) ^^^ sel (a.testBit 127) 135
theorem lin_gd : Lin gd := Lin.add (f := fun a => a % 2 ^ 127 * 2 ^ 1) (Lin.comp (f := fun x => x * 2 ^ 1) (lin_mul 1) (lin_mod 127)) (Lin.bit 127 135)
theorem gxor_lt {a b : Nat} (h : a < B128) (k : b < B128) : a ^^^ b < B128 := Nat.xor_lt_two_pow (n := 128) h k
theorem gd_lt (a : Nat) : gd a < B128 := gxor_lt (by have := Nat.mod_lt a (show 0 < 170141183460469231731687303715884105728 by decide); show _ < 340282366920938463463374607431768211456; omega) (sel_lt (by decide) (by decide))
def gA : Nat → Nat → Nat → Nat
  | 0, _, _ => 0
  | k + 1, a, b => sel (b.testBit 0) a ^^^ gA k (gd a) (b / 2)
theorem glin_left (k : Nat) : ∀ b, Lin fun a => gA k a b := by
  induction k with
  | zero => intro b; exact Lin.none
  | succ k ih => intro b; exact Lin.add (f := fun a => sel (b.testBit 0) a) (Lin.sel Lin.self _) (Lin.comp (f := fun a => gA k a (b / 2)) (ih _) lin_gd)
theorem glin_right (k : Nat) : ∀ a, Lin fun b => gA k a b := by
  induction k with
  | zero => intro b; exact Lin.none
  | succ k ih => intro a; exact Lin.add (f := fun b => sel (b.testBit 0) a) (Lin.bit 0 a) (Lin.comp (f := fun b => gA k (gd a) b) (ih _) lin_half)
theorem gA_lt (k : Nat) : ∀ a b, a < B128 → gA k a b < B128 := by
  induction k with
  | zero => intro a b _; exact (by decide : (0 : Nat) < B128)
  | succ k ih => intro a b h; exact gxor_lt (sel_lt (by decide) h) (ih _ _ (gd_lt a))
/-- Two blocks' product. -/
def gm (a b : Nat) : Nat := gA 128 a b
theorem gm_left (b : Nat) : Lin fun a => gm a b := glin_left 128 b
theorem gm_right (a : Nat) : Lin fun b => gm a b := glin_right 128 a
theorem gm_lt {a : Nat} (b : Nat) (h : a < B128) : gm a b < B128 := gA_lt 128 a b h
theorem gm_zero (a : Nat) : gm a 0 = 0 := (gm_right a).zero
theorem zero_gm (a : Nat) : gm 0 a = 0 := (gm_left a).zero
theorem gm_spread (a b c : Nat) : gm a (b ^^^ c) = gm a b ^^^ gm a c := gm_right a b c
/-- As a reckoner goes. -/
def gS : Nat → Nat → Nat → Nat → Nat
  | 0, p, _, _ => p
  | k + 1, p, a, b => strict (p ^^^ sel (b.testBit 0) a) fun p' => strict (gd a) fun a' => strict (b / 2) fun b' => gS k p' a' b'
theorem gS_is (k : Nat) : ∀ p a b, gS k p a b = p ^^^ gA k a b := by
  induction k with
  | zero => intro p a b; exact (Nat.xor_zero p).symm
  | succ k ih => intro p a b; rw [gS, strict_is, strict_is, strict_is, ih, gA, Nat.xor_assoc]
theorem gm_is (a b : Nat) : gm a b = gS 128 0 a b := by rw [gS_is, Nat.zero_xor]; rfl

/-- So many times x. -/
def gX : Nat → Nat → Nat
  | 0, a => a
  | k + 1, a => gd (gX k a)
theorem gX_in (k : Nat) : ∀ a, gX k (gd a) = gd (gX k a) := by
  induction k with
  | zero => intro a; rfl
  | succ k ih => intro a; rw [gX, ih]; rfl
theorem lin_gX (k : Nat) : Lin (gX k) := by
  induction k with
  | zero => exact Lin.self
  | succ k ih => exact Lin.comp (f := gd) lin_gd ih
theorem gX_lt (k : Nat) {a : Nat} (h : a < B128) : gX k a < B128 := by
  cases k with
  | zero => exact h
  | succ k => exact gd_lt _
theorem gX_add (j k a : Nat) : gX (j + k) a = gX j (gX k a) := by
  induction j with
  | zero => rw [Nat.zero_add]; rfl
  | succ j ih => rw [show j + 1 + k = j + k + 1 by omega, gX, ih]; rfl
theorem gX_comm (j k a : Nat) : gX j (gX k a) = gX k (gX j a) := by rw [← gX_add, ← gX_add, Nat.add_comm]
theorem gA_gd (k : Nat) : ∀ a b, gA k (gd a) b = gd (gA k a b) := by
  induction k with
  | zero => intro a b; exact lin_gd.zero.symm
  | succ k ih =>
    intro a b
    rw [gA, gA, lin_gd, ih]
    congr 1
    cases b.testBit 0
    · exact lin_gd.zero.symm
    · rfl
theorem gA_pow (k : Nat) : ∀ i a, i < k → gA k a (2 ^ i) = gX i a := by
  induction k with
  | zero => intro i a h; omega
  | succ k ih =>
    intro i a h
    cases i with
    | zero =>
      rw [gA]
      have e : gA k (gd a) (2 ^ 0 / 2) = 0 := (glin_right k (gd a)).zero
      rw [e]
      simp [sel, gX]
    | succ i =>
      have e0 : (2 ^ (i + 1)).testBit 0 = false := by simp
      have e1 : 2 ^ (i + 1) / 2 = 2 ^ i := by rw [Nat.pow_succ]; omega
      rw [gA, e0, e1, ih i (gd a) (by omega), gX_in]
      simp [sel, gX]
theorem gm_pow {i : Nat} (a : Nat) (h : i < 128) : gm a (2 ^ i) = gX i a := gA_pow 128 i a h
theorem gm_gX (k a b : Nat) : gm (gX k a) b = gX k (gm a b) := by
  induction k with
  | zero => rfl
  | succ k ih => rw [gX]; show gA 128 (gd (gX k a)) b = _; rw [gA_gd]; show gd (gm (gX k a) b) = _; rw [ih]; rfl
theorem gd_pow {i : Nat} (h : i < 127) : gd (2 ^ i) = 2 ^ (i + 1) := by
  have key : ∀ i, i < 127 → gd (2 ^ i) = 2 ^ (i + 1) := by decide +kernel
  exact key i h
theorem gX_one {i : Nat} (h : i < 128) : gX i 1 = 2 ^ i := by
  induction i with
  | zero => rfl
  | succ i ih => rw [gX, ih (by omega), gd_pow (by omega)]
theorem block_ext {f g : Nat → Nat} (hf : Lin f) (hg : Lin g) (h : ∀ i, i < 128 → f (2 ^ i) = g (2 ^ i)) (x : Nat) (hx : x < B128) : f x = g x := lin_ext hf hg 128 h x hx
theorem one_gm {b : Nat} (h : b < B128) : gm 1 b = b :=
  block_ext (f := fun b => gm 1 b) (g := fun b => b) (gm_right 1) Lin.self (fun i hi => by show gm 1 (2 ^ i) = 2 ^ i; rw [gm_pow 1 hi, gX_one hi]) b h
theorem gm_one (a : Nat) : gm a 1 = a := gm_pow (i := 0) a (by omega)
theorem gm_comm {a b : Nat} (ha : a < B128) (hb : b < B128) : gm a b = gm b a :=
  block_ext (f := fun b => gm a b) (g := fun b => gm b a) (gm_right a) (gm_left a) (fun i hi => by
    show gm a (2 ^ i) = gm (2 ^ i) a
    rw [gm_pow a hi, ← gX_one hi, gm_gX, one_gm ha]) b hb
theorem gm_gXr {b : Nat} (k : Nat) {a : Nat} (ha : a < B128) (hb : b < B128) : gm a (gX k b) = gX k (gm a b) := by
  rw [gm_comm ha (gX_lt k hb), gm_gX, gm_comm hb ha]
theorem gm_assoc {a b c : Nat} (ha : a < B128) (hb : b < B128) (hc : c < B128) : gm (gm a b) c = gm a (gm b c) :=
  block_ext (f := fun b => gm (gm a b) c) (g := fun b => gm a (gm b c)) ((gm_left c).comp (gm_right a)) ((gm_right a).comp (gm_left c)) (fun i hi => by
    show gm (gm a (2 ^ i)) c = gm a (gm (2 ^ i) c)
    rw [gm_pow a hi, gm_gX, ← gX_one hi, gm_gX, one_gm hc, gm_gXr i ha hc]) b hb

/-- A block's square. -/
def gF (a : Nat) : Nat := gm a a
theorem gF_lt {a : Nat} (h : a < B128) : gF a < B128 := gm_lt a h
theorem gF_add {a b : Nat} (ha : a < B128) (hb : b < B128) : gF (a ^^^ b) = gF a ^^^ gF b := by
  unfold gF
  have e1 : gm (a ^^^ b) a = gm a a ^^^ gm b a := gm_left a a b
  have e2 : gm (a ^^^ b) b = gm a b ^^^ gm b b := gm_left b a b
  rw [gm_spread, e1, e2, gm_comm hb ha, Nat.xor_assoc, ← Nat.xor_assoc (gm a b) (gm a b), Nat.xor_self, Nat.zero_xor]
theorem gF_mul {a b : Nat} (ha : a < B128) (hb : b < B128) : gF (gm a b) = gm (gF a) (gF b) := by
  unfold gF
  rw [gm_assoc ha hb (gm_lt b ha), ← gm_assoc hb ha hb, gm_comm hb ha, gm_assoc ha hb hb, ← gm_assoc ha ha (gm_lt b hb)]
end Go.Proofs.Ytlfghagidajpeaa
