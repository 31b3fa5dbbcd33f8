/- Bytes as polynomials over 0 and 1, in plain numbers: nothing of the program. -/
import Derived.Test.YtlfghagidajpeaaFTab
namespace Go.Proofs.Ytlfghagidajpeaa

/-- Additive over xor. -/
def Lin (f : Nat → Nat) : Prop := ∀ x y, f (x ^^^ y) = f x ^^^ f y
theorem Lin.zero {f : Nat → Nat} (h : Lin f) : f 0 = 0 := by
  have := h 0 0
  rw [Nat.xor_self] at this
  rw [this, Nat.xor_self]
theorem Lin.comp {f g : Nat → Nat} (h : Lin f) (k : Lin g) : Lin fun x => f (g x) := fun x y => by
  show f (g (x ^^^ y)) = f (g x) ^^^ f (g y)
  rw [k, h]
theorem xor4 (a b c d : Nat) : (a ^^^ b) ^^^ (c ^^^ d) = (a ^^^ c) ^^^ (b ^^^ d) := by
  rw [Nat.xor_assoc, ← Nat.xor_assoc b c d, Nat.xor_comm b c, Nat.xor_assoc c b d, ← Nat.xor_assoc]
theorem Lin.add {f g : Nat → Nat} (h : Lin f) (k : Lin g) : Lin fun x => f x ^^^ g x := fun x y => by
  show f (x ^^^ y) ^^^ g (x ^^^ y) = (f x ^^^ g x) ^^^ (f y ^^^ g y)
  rw [h, k, xor4]
theorem Lin.self : Lin fun x => x := fun _ _ => rfl
theorem Lin.none : Lin fun _ => 0 := fun _ _ => (Nat.xor_self 0).symm

/-- A number, if the bit is so; else 0. -/
def sel (b : Bool) (x : Nat) : Nat := bif b then x else 0
theorem sel_bits (b c : Bool) (x : Nat) : sel (b ^^ c) x = sel b x ^^^ sel c x := by cases b <;> cases c <;> simp [sel]
theorem sel_nums (b : Bool) (x y : Nat) : sel b (x ^^^ y) = sel b x ^^^ sel b y := by cases b <;> simp [sel]
theorem Lin.bit (i x : Nat) : Lin fun n => sel (n.testBit i) x := fun a b => by
  show sel ((a ^^^ b).testBit i) x = _
  rw [Nat.testBit_xor, sel_bits]
theorem Lin.sel {f : Nat → Nat} (h : Lin f) (b : Bool) : Lin fun n => Go.Proofs.Ytlfghagidajpeaa.sel b (f n) := fun x y => by
  show Go.Proofs.Ytlfghagidajpeaa.sel b (f (x ^^^ y)) = _
  rw [h, sel_nums]
theorem sel_lt {b : Bool} {x n : Nat} (hn : 0 < n) (h : x < n) : sel b x < n := by cases b <;> simp [sel, *]

/-- Two of them that are the same at the powers of 2 are the same below the next one. -/
theorem lin_ext {f g : Nat → Nat} (hf : Lin f) (hg : Lin g) : ∀ k, (∀ i, i < k → f (2 ^ i) = g (2 ^ i)) → ∀ x, x < 2 ^ k → f x = g x := by
  intro k
  induction k with
  | zero =>
    intro _ x hx
    obtain rfl : x = 0 := by omega
    rw [hf.zero, hg.zero]
  | succ k ih =>
    intro h x hx
    by_cases hlt : x < 2 ^ k
    · exact ih (fun i hi => h i (by omega)) x hlt
    · have hb : x ^^^ 2 ^ k < 2 ^ k := by
        apply Nat.lt_pow_two_of_testBit
        intro i hi
        rw [Nat.testBit_xor]
        by_cases e : i = k
        · subst e
          have : x.testBit i = true := by
            rw [Nat.testBit_eq_decide_div_mod_eq]
            have h1 : x / 2 ^ i = 1 := by
              apply Nat.div_eq_of_lt_le
              · omega
              · rw [Nat.pow_succ] at hx; omega
            rw [h1]; rfl
          rw [this, Nat.testBit_two_pow_self]
          rfl
        · rw [Nat.testBit_lt_two_pow (Nat.lt_of_lt_of_le hx (Nat.pow_le_pow_right (by omega) (by omega))), Nat.testBit_two_pow_of_ne (by omega)]
          rfl
      have e : x = (x ^^^ 2 ^ k) ^^^ 2 ^ k := by rw [Nat.xor_assoc, Nat.xor_self, Nat.xor_zero]
      rw [e, hf, hg, ih (fun i hi => h i (by omega)) _ hb, h k (by omega)]
theorem byte_ext {f g : Nat → Nat} (hf : Lin f) (hg : Lin g) (h : ∀ i, i < 8 → f (2 ^ i) = g (2 ^ i)) (x : Nat) (hx : x < 256) : f x = g x := lin_ext hf hg 8 h x hx

theorem lin_half : Lin fun x => x / 2 := fun x y => by
  have h := Nat.shiftRight_xor_distrib (a := x) (b := y) (i := 1)
  simpa [Nat.shiftRight_eq_div_pow] using h
theorem lin_mod (k : Nat) : Lin fun x => x % 2 ^ k := fun _ _ => Nat.xor_mod_two_pow
theorem lin_mul (k : Nat) : Lin fun x => x * 2 ^ k := fun x y => by
  have h := Nat.shiftLeft_xor_distrib (a := x) (b := y) (i := k)
  simpa [Nat.shiftLeft_eq] using h

/-- A byte times x. -/
def dbl (a : Nat) : Nat := (a % 128 * 2) ^^^ sel (a.testBit 7) 27
theorem lin_dbl : Lin dbl := Lin.add (f := fun a => a % 128 * 2) (Lin.comp (f := fun x => x * 2) (lin_mul 1) (lin_mod 7)) (Lin.bit 7 27)
theorem xor_lt8 {a b : Nat} (h : a < 256) (k : b < 256) : a ^^^ b < 256 := Nat.xor_lt_two_pow (n := 8) h k
theorem dbl_lt (a : Nat) : dbl a < 256 := xor_lt8 (by omega) (sel_lt (by omega) (by omega))

/-- The product, as shifts tell it, of so many bits. -/
def mulA : Nat → Nat → Nat → Nat
  | 0, _, _ => 0
  | k + 1, a, b => sel (b.testBit 0) a ^^^ mulA k (dbl a) (b / 2)
theorem lin_left (k : Nat) : ∀ b, Lin fun a => mulA k a b := by
  induction k with
  | zero => intro b; exact Lin.none
  | succ k ih => intro b; exact Lin.add (f := fun a => sel (b.testBit 0) a) (Lin.sel Lin.self _) (Lin.comp (f := fun a => mulA k a (b / 2)) (ih _) lin_dbl)
theorem lin_right (k : Nat) : ∀ a, Lin fun b => mulA k a b := by
  induction k with
  | zero => intro b; exact Lin.none
  | succ k ih => intro a; exact Lin.add (f := fun b => sel (b.testBit 0) a) (Lin.bit 0 a) (Lin.comp (f := fun b => mulA k (dbl a) b) (ih _) lin_half)
theorem mulA_lt (k : Nat) : ∀ a b, a < 256 → mulA k a b < 256 := by
  induction k with
  | zero => intro a b _; exact Nat.zero_lt_succ _
  | succ k ih => intro a b h; exact xor_lt8 (sel_lt (by omega) h) (ih _ _ (dbl_lt a))
/-- Two bytes' product. -/
def cm (a b : Nat) : Nat := mulA 8 a b
theorem cm_left (b : Nat) : Lin fun a => cm a b := lin_left 8 b
theorem cm_right (a : Nat) : Lin fun b => cm a b := lin_right 8 a
theorem cm_lt {a : Nat} (b : Nat) (h : a < 256) : cm a b < 256 := mulA_lt 8 a b h
/-- As the loop goes: what is made so far, and the two bytes that are left. -/
def mulF : Nat → Nat → Nat → Nat → Nat
  | 0, p, _, _ => p
  | k + 1, p, a, b => mulF k (p ^^^ sel (b.testBit 0) a) (dbl a) (b / 2)
theorem mulF_is (k : Nat) : ∀ p a b, mulF k p a b = p ^^^ mulA k a b := by
  induction k with
  | zero => intro p a b; exact (Nat.xor_zero p).symm
  | succ k ih => intro p a b; rw [mulF, ih, mulA, Nat.xor_assoc]
theorem mulF_zero (k : Nat) : ∀ p a, mulF k p a 0 = p := by
  intro p a
  rw [mulF_is, (lin_right k a).zero, Nat.xor_zero]

/-- It is a ring. -/
theorem cm_comm {a b : Nat} (ha : a < 256) (hb : b < 256) : cm a b = cm b a := by
  have key : ∀ i, i < 8 → ∀ j, j < 8 → cm (2 ^ i) (2 ^ j) = cm (2 ^ j) (2 ^ i) := by decide +kernel
  exact byte_ext (f := fun a => cm a b) (g := fun a => cm b a) (cm_left b) (cm_right b) (fun i hi =>
    byte_ext (f := fun b => cm (2 ^ i) b) (g := fun b => cm b (2 ^ i)) (cm_right _) (cm_left _) (key i hi) b hb) a ha
theorem cm_assoc {a b c : Nat} (ha : a < 256) (hb : b < 256) (hc : c < 256) : cm (cm a b) c = cm a (cm b c) := by
  have key : ∀ i, i < 8 → ∀ j, j < 8 → ∀ k, k < 8 → cm (cm (2 ^ i) (2 ^ j)) (2 ^ k) = cm (2 ^ i) (cm (2 ^ j) (2 ^ k)) := by decide +kernel
  exact byte_ext (f := fun a => cm (cm a b) c) (g := fun a => cm a (cm b c)) ((cm_left c).comp (cm_left b)) (cm_left _) (fun i hi =>
    byte_ext (f := fun b => cm (cm (2 ^ i) b) c) (g := fun b => cm (2 ^ i) (cm b c)) ((cm_left c).comp (cm_right _)) ((cm_right _).comp (cm_left c)) (fun j hj =>
      byte_ext (f := fun c => cm (cm (2 ^ i) (2 ^ j)) c) (g := fun c => cm (2 ^ i) (cm (2 ^ j) c)) (cm_right _) ((cm_right _).comp (cm_right _)) (key i hi j hj) c hc) b hb) a ha
theorem cm_one {a : Nat} (ha : a < 256) : cm a 1 = a := by
  have key : ∀ i, i < 8 → cm (2 ^ i) 1 = 2 ^ i := by decide +kernel
  exact byte_ext (f := fun a => cm a 1) (g := fun a => a) (cm_left 1) Lin.self key a ha
theorem one_cm {a : Nat} (ha : a < 256) : cm 1 a = a := by rw [cm_comm (by omega) ha, cm_one ha]
theorem cm_zero (a : Nat) : cm a 0 = 0 := (cm_right a).zero
theorem zero_cm (a : Nat) : cm 0 a = 0 := (cm_left a).zero
theorem cm_spread (a b c : Nat) : cm a (b ^^^ c) = cm a b ^^^ cm a c := cm_right a b c

/-- Inverses. -/
def inv (a : Nat) : Nat := invT.getD a 0
theorem inv_all : ∀ a, a < 256 → inv a < 256 ∧ inv (inv a) = a ∧ (a = 0 ∨ cm a (inv a) = 1) := by decide +kernel
theorem inv_lt {a : Nat} (h : a < 256) : inv a < 256 := (inv_all a h).1
theorem inv_inv {a : Nat} (h : a < 256) : inv (inv a) = a := (inv_all a h).2.1
theorem cm_inv {a : Nat} (h : a < 256) (h0 : a ≠ 0) : cm a (inv a) = 1 := by
  rcases (inv_all a h).2.2 with e | e
  · exact absurd e h0
  · exact e
theorem inv_zero : inv 0 = 0 := rfl
theorem inv_only {a b : Nat} (ha : a < 256) (hb : b < 256) (h : cm a b = 1) : b = inv a := by
  have h0 : a ≠ 0 := by
    rintro rfl
    rw [zero_cm] at h
    cases h
  have e := cm_assoc (inv_lt ha) ha hb
  rw [h, cm_comm (inv_lt ha) ha, cm_inv ha h0, one_cm hb, cm_one (inv_lt ha)] at e
  exact e
theorem inv_ne {a : Nat} (h : a < 256) (h0 : a ≠ 0) : inv a ≠ 0 := by
  intro e
  have := cm_inv h h0
  rw [e, cm_zero] at this
  cases this

/-- Powers. -/
def pw (a : Nat) : Nat → Nat
  | 0 => 1
  | n + 1 => cm (pw a n) a
theorem pw_lt {a : Nat} (_h : a < 256) (n : Nat) : pw a n < 256 := by
  induction n with
  | zero => exact (by decide : (1 : Nat) < 256)
  | succ n ih => exact cm_lt _ ih
theorem pw_add {a : Nat} (h : a < 256) (m n : Nat) : pw a (m + n) = cm (pw a m) (pw a n) := by
  induction n with
  | zero => rw [Nat.add_zero, pw, cm_one (pw_lt h m)]
  | succ n ih => rw [← Nat.add_assoc, pw, ih, pw, cm_assoc (pw_lt h m) (pw_lt h n) h]
theorem pw_one {a : Nat} (h : a < 256) : pw a 1 = a := by rw [pw, pw, one_cm h]
theorem pw_sq {a : Nat} (h : a < 256) (k : Nat) : pw a (2 ^ (k + 1)) = cm (pw a (2 ^ k)) (pw a (2 ^ k)) := by
  rw [Nat.pow_succ, Nat.mul_two, pw_add h]
theorem pw_bit {a : Nat} (h : a < 256) (n k : Nat) : pw a (n % 2 ^ (k + 1)) = bif n.testBit k then cm (pw a (n % 2 ^ k)) (pw a (2 ^ k)) else pw a (n % 2 ^ k) := by
  have e : n % 2 ^ (k + 1) = n % 2 ^ k + 2 ^ k * (n / 2 ^ k % 2) := by rw [Nat.pow_succ, Nat.mod_mul]
  rw [Nat.testBit_eq_decide_div_mod_eq, e]
  rcases Nat.mod_two_eq_zero_or_one (n / 2 ^ k) with h0 | h1
  · rw [h0]; simp
  · rw [h1]; simp [pw_add h]
/-- A number reckoned ahead of what is told of it. -/
def strict (n : Nat) (f : Nat → Nat) : Nat := Nat.rec (f 0) (fun m _ => f (m + 1)) n
theorem strict_is (n : Nat) (f : Nat → Nat) : strict n f = f n := by cases n <;> rfl
def sqS : Nat → Nat → Nat
  | 0, a => a
  | k + 1, a => strict (cm a a) (sqS k)
theorem sqS_is (k : Nat) : ∀ a, a < 256 → sqS k a = pw a (2 ^ k) := by
  induction k with
  | zero => intro a h; exact (pw_one h).symm
  | succ k ih =>
    intro a h
    rw [sqS, strict_is, ih _ (cm_lt a h)]
    have key : ∀ n, pw (cm a a) n = pw a (2 * n) := by
      intro n
      induction n with
      | zero => rfl
      | succ n ihn =>
        rw [pw, ihn, show 2 * (n + 1) = 2 * n + 1 + 1 by omega, pw, pw, cm_assoc (pw_lt h _) h h]
    rw [key, Nat.pow_succ, Nat.mul_comm]
theorem pw_256 {a : Nat} (h : a < 256) : pw a 256 = a := by
  have key : ∀ a, a < 256 → sqS 8 a = a := by decide +kernel
  have := sqS_is 8 a h
  rw [key a h] at this
  exact this.symm
theorem pw_255 {a : Nat} (h : a < 256) (h0 : a ≠ 0) : pw a 255 = 1 := by
  have e : cm (pw a 255) a = a := pw_256 h
  have e2 := cm_assoc (pw_lt h 255) h (inv_lt h)
  rw [e, cm_inv h h0, cm_one (pw_lt h _)] at e2
  exact e2.symm
theorem pw_254 {a : Nat} (h : a < 256) : pw a 254 = inv a := by
  by_cases h0 : a = 0
  · subst h0
    rw [pw, cm_zero]
    rfl
  · exact inv_only h (pw_lt h _) (by rw [cm_comm h (pw_lt h _)]; exact pw_255 h h0)
theorem pw_zero (n : Nat) (h : 0 < n) : pw 0 n = 0 := by
  obtain ⟨m, rfl⟩ : ∃ m, n = m + 1 := ⟨n - 1, by omega⟩
  rw [pw, cm_zero]
theorem pw_round {a : Nat} (h : a < 256) (h0 : a ≠ 0) (n : Nat) : pw a (n + 255) = pw a n := by rw [pw_add h, pw_255 h h0, cm_one (pw_lt h _)]
theorem pw_mod {a : Nat} (h : a < 256) (h0 : a ≠ 0) (n : Nat) : pw a (n % 255 + 255) = pw a n := by
  have key : ∀ q r, pw a (r + 255 * q) = pw a r := by
    intro q
    induction q with
    | zero => intro r; rfl
    | succ q ih => intro r; rw [show r + 255 * (q + 1) = r + 255 * q + 255 by omega, pw_round h h0, ih]
  rw [pw_round h h0, ← key (n / 255) (n % 255), Nat.mod_add_div]

/-- Boxes. -/
def box (a : Nat) : Nat := boxT.getD a 0
/-- A byte turned right. -/
def rot (b n : Nat) : Nat := (b / 2 ^ n) ||| (b * 2 ^ (8 - n) % 256)
/-- The box of the byte that has this inverse. -/
def boxI (b : Nat) : Nat := b ^^^ 99 ^^^ rot b 4 ^^^ rot b 5 ^^^ rot b 6 ^^^ rot b 7
theorem box_all : ∀ a, a < 256 → boxI (inv a) = box a ∧ box a < 256 ∧ boxT.idxOf (box a) = a ∧ box a ≠ a ∧ box a ≠ 255 - a := by decide +kernel
theorem box_inj {a b : Nat} (ha : a < 256) (hb : b < 256) (h : box a = box b) : a = b := by
  rw [← (box_all a ha).2.2.1, ← (box_all b hb).2.2.1, h]
theorem rot_lt {b : Nat} (n : Nat) (h : b < 256) : rot b n < 256 := Nat.or_lt_two_pow (n := 8) (Nat.lt_of_le_of_lt (Nat.div_le_self _ _) h) (Nat.mod_lt _ (by omega))
end Go.Proofs.Ytlfghagidajpeaa
