/- Texts of this seat, one behind the other: FTab, FMath, AMem0, FRefM, FDbl, FMul, FPow, FRefA. -/
import Derived.Below
import Derived.Deep.MidRow
import Derived.Deep.AppendLies
import Derived.Deep.CutRange
import Derived.Laws.MakeOwn
import Derived.Outline
import Derived.Laws.BitsAllLaws
import Derived.IntWalk
import Derived.Test.YtcecjoodlmpgnaaGreatFLen
import Derived.Test.YtcecjoodlmpgnaaGreatQ01
/- Bytes' inverses, and the boxes of the bytes: the tables. Nothing of any function. -/
namespace Go.Proofs.YtcecjoodlmpgnaaGreat
def invT : List Nat := [0, 1, 141, 246, 203, 82, 123, 209, 232, 79, 41, 192, 176, 225, 229, 199, 116, 180, 170, 75, 153, 43, 96, 95, 88, 63, 253, 204, 255, 64, 238, 178, 58, 110, 90, 241, 85, 77, 168, 201, 193, 10, 152, 21, 48, 68, 162, 194, 44, 69, 146, 108, 243, 57, 102, 66, 242, 53, 32, 111, 119, 187, 89, 25, 29, 254, 55, 103, 45, 49, 245, 105, 167, 100, 171, 19, 84, 37, 233, 9, 237, 92, 5, 202, 76, 36, 135, 191, 24, 62, 34, 240, 81, 236, 97, 23, 22, 94, 175, 211, 73, 166, 54, 67, 244, 71, 145, 223, 51, 147, 33, 59, 121, 183, 151, 133, 16, 181, 186, 60, 182, 112, 208, 6, 161, 250, 129, 130, 131, 126, 127, 128, 150, 115, 190, 86, 155, 158, 149, 217, 247, 2, 185, 164, 222, 106, 50, 109, 216, 138, 132, 114, 42, 20, 159, 136, 249, 220, 137, 154, 251, 124, 46, 195, 143, 184, 101, 72, 38, 200, 18, 74, 206, 231, 210, 98, 12, 224, 31, 239, 17, 117, 120, 113, 165, 142, 118, 61, 189, 188, 134, 87, 11, 40, 47, 163, 218, 212, 228, 15, 169, 39, 83, 4, 27, 252, 172, 230, 122, 7, 174, 99, 197, 219, 226, 234, 148, 139, 196, 213, 157, 248, 144, 107, 177, 13, 214, 235, 198, 14, 207, 173, 8, 78, 215, 227, 93, 80, 30, 179, 91, 35, 56, 52, 104, 70, 3, 140, 221, 156, 125, 160, 205, 26, 65, 28]
def boxT : List Nat := [99, 124, 119, 123, 242, 107, 111, 197, 48, 1, 103, 43, 254, 215, 171, 118, 202, 130, 201, 125, 250, 89, 71, 240, 173, 212, 162, 175, 156, 164, 114, 192, 183, 253, 147, 38, 54, 63, 247, 204, 52, 165, 229, 241, 113, 216, 49, 21, 4, 199, 35, 195, 24, 150, 5, 154, 7, 18, 128, 226, 235, 39, 178, 117, 9, 131, 44, 26, 27, 110, 90, 160, 82, 59, 214, 179, 41, 227, 47, 132, 83, 209, 0, 237, 32, 252, 177, 91, 106, 203, 190, 57, 74, 76, 88, 207, 208, 239, 170, 251, 67, 77, 51, 133, 69, 249, 2, 127, 80, 60, 159, 168, 81, 163, 64, 143, 146, 157, 56, 245, 188, 182, 218, 33, 16, 255, 243, 210, 205, 12, 19, 236, 95, 151, 68, 23, 196, 167, 126, 61, 100, 93, 25, 115, 96, 129, 79, 220, 34, 42, 144, 136, 70, 238, 184, 20, 222, 94, 11, 219, 224, 50, 58, 10, 73, 6, 36, 92, 194, 211, 172, 98, 145, 149, 228, 121, 231, 200, 55, 109, 141, 213, 78, 169, 108, 86, 244, 234, 101, 122, 174, 8, 186, 120, 37, 46, 28, 166, 180, 198, 232, 221, 116, 31, 75, 189, 139, 138, 112, 62, 181, 102, 72, 3, 246, 14, 97, 53, 87, 185, 134, 193, 29, 158, 225, 248, 152, 17, 105, 217, 142, 148, 155, 30, 135, 233, 206, 85, 40, 223, 140, 161, 137, 13, 191, 230, 66, 104, 65, 153, 45, 15, 176, 84, 187, 22]
end Go.Proofs.YtcecjoodlmpgnaaGreat
/- Bytes as polynomials over 0 and 1, in plain numbers: nothing of the program. -/
namespace Go.Proofs.YtcecjoodlmpgnaaGreat

/-- Additive over xor. -/
def Lin (f : Nat → Nat) : Prop := ∀ x y, f (x ^^^ y) = f x ^^^ f y
theorem Lin.zero {f : Nat → Nat} (h : Lin f) : f 0 = 0 := by
  have := h 0 0
  rw [Nat.xor_self] at this
  rw [this, Nat.xor_self]
theorem Lin.comp {f g : Nat → Nat} (h : Lin f) (k : Lin g) : Lin fun x => f (g x) := fun x y => by
  show f (g (x ^^^ y)) = f (g x) ^^^ f (g y)
  rw [k, h]
theorem xor4 (a b c d : Nat) : (a ^^^ b) ^^^ (c ^^^ d) = (a ^^^ c) ^^^ (b ^^^ d) := by
  rw [Nat.xor_assoc, ← Nat.xor_assoc b c d, Nat.xor_comm b c, Nat.xor_assoc c b d, ← Nat.xor_assoc]
theorem Lin.add {f g : Nat → Nat} (h : Lin f) (k : Lin g) : Lin fun x => f x ^^^ g x := fun x y => by
  show f (x ^^^ y) ^^^ g (x ^^^ y) = (f x ^^^ g x) ^^^ (f y ^^^ g y)
  rw [h, k, xor4]
theorem Lin.self : Lin fun x => x := fun _ _ => rfl
theorem Lin.none : Lin fun _ => 0 := fun _ _ => (Nat.xor_self 0).symm

/-- A number, if the bit is so; else 0. -/
def sel (b : Bool) (x : Nat) : Nat := bif b then x else 0
theorem sel_bits (b c : Bool) (x : Nat) : sel (b ^^ c) x = sel b x ^^^ sel c x := by cases b <;> cases c <;> simp [sel]
theorem sel_nums (b : Bool) (x y : Nat) : sel b (x ^^^ y) = sel b x ^^^ sel b y := by cases b <;> simp [sel]
theorem Lin.bit (i x : Nat) : Lin fun n => sel (n.testBit i) x := fun a b => by
  show sel ((a ^^^ b).testBit i) x = _
  rw [Nat.testBit_xor, sel_bits]
theorem Lin.sel {f : Nat → Nat} (h : Lin f) (b : Bool) : Lin fun n => Go.Proofs.YtcecjoodlmpgnaaGreat.sel b (f n) := fun x y => by
  show Go.Proofs.YtcecjoodlmpgnaaGreat.sel b (f (x ^^^ y)) = _
  rw [h, sel_nums]
theorem sel_lt {b : Bool} {x n : Nat} (hn : 0 < n) (h : x < n) : sel b x < n := by cases b <;> simp [sel, *]

/-- Two of them that are the same at the powers of 2 are the same below the next one. -/
theorem lin_ext {f g : Nat → Nat} (hf : Lin f) (hg : Lin g) : ∀ k, (∀ i, i < k → f (2 ^ i) = g (2 ^ i)) → ∀ x, x < 2 ^ k → f x = g x := by
  intro k
  induction k with
  | zero =>
    intro _ x hx
    obtain rfl : x = 0 := by omega
    rw [hf.zero, hg.zero]
  | succ k ih =>
    intro h x hx
    by_cases hlt : x < 2 ^ k
    · exact ih (fun i hi => h i (by omega)) x hlt
    · have hb : x ^^^ 2 ^ k < 2 ^ k := by
        apply Nat.lt_pow_two_of_testBit
        intro i hi
        rw [Nat.testBit_xor]
        by_cases e : i = k
        · subst e
          have : x.testBit i = true := by
            rw [Nat.testBit_eq_decide_div_mod_eq]
            have h1 : x / 2 ^ i = 1 := by
              apply Nat.div_eq_of_lt_le
              · omega
              · rw [Nat.pow_succ] at hx; omega
            rw [h1]; rfl
          rw [this, Nat.testBit_two_pow_self]
          rfl
        · rw [Nat.testBit_lt_two_pow (Nat.lt_of_lt_of_le hx (Nat.pow_le_pow_right (by omega) (by omega))), Nat.testBit_two_pow_of_ne (by omega)]
          rfl
      have e : x = (x ^^^ 2 ^ k) ^^^ 2 ^ k := by rw [Nat.xor_assoc, Nat.xor_self, Nat.xor_zero]
      rw [e, hf, hg, ih (fun i hi => h i (by omega)) _ hb, h k (by omega)]
theorem byte_ext {f g : Nat → Nat} (hf : Lin f) (hg : Lin g) (h : ∀ i, i < 8 → f (2 ^ i) = g (2 ^ i)) (x : Nat) (hx : x < 256) : f x = g x := lin_ext hf hg 8 h x hx

theorem lin_half : Lin fun x => x / 2 := fun x y => by
  have h := Nat.shiftRight_xor_distrib (a := x) (b := y) (i := 1)
  simpa [Nat.shiftRight_eq_div_pow] using h
theorem lin_mod (k : Nat) : Lin fun x => x % 2 ^ k := fun _ _ => Nat.xor_mod_two_pow
theorem lin_mul (k : Nat) : Lin fun x => x * 2 ^ k := fun x y => by
  have h := Nat.shiftLeft_xor_distrib (a := x) (b := y) (i := k)
  simpa [Nat.shiftLeft_eq] using h

/-- A byte times x. -/
def dbl (a : Nat) : Nat := (a % 128 * 2) ^^^ sel (a.testBit 7) 27
theorem lin_dbl : Lin dbl := Lin.add (f := fun a => a % 128 * 2) (Lin.comp (f := fun x => x * 2) (lin_mul 1) (lin_mod 7)) (Lin.bit 7 27)
theorem xor_lt8 {a b : Nat} (h : a < 256) (k : b < 256) : a ^^^ b < 256 := Nat.xor_lt_two_pow (n := 8) h k
theorem dbl_lt (a : Nat) : dbl a < 256 := xor_lt8 (by omega) (sel_lt (by omega) (by omega))

/-- The product, as shifts tell it, of so many bits. -/
def mulA : Nat → Nat → Nat → Nat
  | 0, _, _ => 0
  | k + 1, a, b => sel (b.testBit 0) a ^^^ mulA k (dbl a) (b / 2)
theorem lin_left (k : Nat) : ∀ b, Lin fun a => mulA k a b := by
  induction k with
  | zero => intro b; exact Lin.none
  | succ k ih => intro b; exact Lin.add (f := fun a => sel (b.testBit 0) a) (Lin.sel Lin.self _) (Lin.comp (f := fun a => mulA k a (b / 2)) (ih _) lin_dbl)
theorem lin_right (k : Nat) : ∀ a, Lin fun b => mulA k a b := by
  induction k with
  | zero => intro b; exact Lin.none
  | succ k ih => intro a; exact Lin.add (f := fun b => sel (b.testBit 0) a) (Lin.bit 0 a) (Lin.comp (f := fun b => mulA k (dbl a) b) (ih _) lin_half)
theorem mulA_lt (k : Nat) : ∀ a b, a < 256 → mulA k a b < 256 := by
  induction k with
  | zero => intro a b _; exact Nat.zero_lt_succ _
  | succ k ih => intro a b h; exact xor_lt8 (sel_lt (by omega) h) (ih _ _ (dbl_lt a))
/-- Two bytes' product. -/
def cm (a b : Nat) : Nat := mulA 8 a b
theorem cm_left (b : Nat) : Lin fun a => cm a b := lin_left 8 b
theorem cm_right (a : Nat) : Lin fun b => cm a b := lin_right 8 a
theorem cm_lt {a : Nat} (b : Nat) (h : a < 256) : cm a b < 256 := mulA_lt 8 a b h
/-- As the loop goes: what is made so far, and the two bytes that are left. -/
def mulF : Nat → Nat → Nat → Nat → Nat
  | 0, p, _, _ => p
  | k + 1, p, a, b => mulF k (p ^^^ sel (b.testBit 0) a) (dbl a) (b / 2)
theorem mulF_is (k : Nat) : ∀ p a b, mulF k p a b = p ^^^ mulA k a b := by
  induction k with
  | zero => intro p a b; exact (Nat.xor_zero p).symm
  | succ k ih => intro p a b; rw [mulF, ih, mulA, Nat.xor_assoc]
theorem mulF_zero (k : Nat) : ∀ p a, mulF k p a 0 = p := by
  intro p a
  rw [mulF_is, (lin_right k a).zero, Nat.xor_zero]

/-- It is a ring. -/
theorem cm_comm {a b : Nat} (ha : a < 256) (hb : b < 256) : cm a b = cm b a := by
  have key : ∀ i, i < 8 → ∀ j, j < 8 → cm (2 ^ i) (2 ^ j) = cm (2 ^ j) (2 ^ i) := by decide +kernel
  exact byte_ext (f := fun a => cm a b) (g := fun a => cm b a) (cm_left b) (cm_right b) (fun i hi =>
    byte_ext (f := fun b => cm (2 ^ i) b) (g := fun b => cm b (2 ^ i)) (cm_right _) (cm_left _) (key i hi) b hb) a ha
theorem cm_assoc {a b c : Nat} (ha : a < 256) (hb : b < 256) (hc : c < 256) : cm (cm a b) c = cm a (cm b c) := by
  have key : ∀ i, i < 8 → ∀ j, j < 8 → ∀ k, k < 8 → cm (cm (2 ^ i) (2 ^ j)) (2 ^ k) = cm (2 ^ i) (cm (2 ^ j) (2 ^ k)) := by decide +kernel
  exact byte_ext (f := fun a => cm (cm a b) c) (g := fun a => cm a (cm b c)) ((cm_left c).comp (cm_left b)) (cm_left _) (fun i hi =>
    byte_ext (f := fun b => cm (cm (2 ^ i) b) c) (g := fun b => cm (2 ^ i) (cm b c)) ((cm_left c).comp (cm_right _)) ((cm_right _).comp (cm_left c)) (fun j hj =>
      byte_ext (f := fun c => cm (cm (2 ^ i) (2 ^ j)) c) (g := fun c => cm (2 ^ i) (cm (2 ^ j) c)) (cm_right _) ((cm_right _).comp (cm_right _)) (key i hi j hj) c hc) b hb) a ha
theorem cm_one {a : Nat} (ha : a < 256) : cm a 1 = a := by
  have key : ∀ i, i < 8 → cm (2 ^ i) 1 = 2 ^ i := by decide +kernel
  exact byte_ext (f := fun a => cm a 1) (g := fun a => a) (cm_left 1) Lin.self key a ha
theorem one_cm {a : Nat} (ha : a < 256) : cm 1 a = a := by rw [cm_comm (by omega) ha, cm_one ha]
theorem cm_zero (a : Nat) : cm a 0 = 0 := (cm_right a).zero
theorem zero_cm (a : Nat) : cm 0 a = 0 := (cm_left a).zero
theorem cm_spread (a b c : Nat) : cm a (b ^^^ c) = cm a b ^^^ cm a c := cm_right a b c

/-- Inverses. -/
def inv (a : Nat) : Nat := invT.getD a 0
theorem inv_all : ∀ a, a < 256 → inv a < 256 ∧ inv (inv a) = a ∧ (a = 0 ∨ cm a (inv a) = 1) := by decide +kernel
theorem inv_lt {a : Nat} (h : a < 256) : inv a < 256 := (inv_all a h).1
theorem inv_inv {a : Nat} (h : a < 256) : inv (inv a) = a := (inv_all a h).2.1
theorem cm_inv {a : Nat} (h : a < 256) (h0 : a ≠ 0) : cm a (inv a) = 1 := by
  rcases (inv_all a h).2.2 with e | e
  · exact absurd e h0
  · exact e
theorem inv_zero : inv 0 = 0 := rfl
theorem inv_only {a b : Nat} (ha : a < 256) (hb : b < 256) (h : cm a b = 1) : b = inv a := by
  have h0 : a ≠ 0 := by
    rintro rfl
    rw [zero_cm] at h
    cases h
  have e := cm_assoc (inv_lt ha) ha hb
  rw [h, cm_comm (inv_lt ha) ha, cm_inv ha h0, one_cm hb, cm_one (inv_lt ha)] at e
  exact e
theorem inv_ne {a : Nat} (h : a < 256) (h0 : a ≠ 0) : inv a ≠ 0 := by
  intro e
  have := cm_inv h h0
  rw [e, cm_zero] at this
  cases this

/-- Powers. -/
def pw (a : Nat) : Nat → Nat
  | 0 => 1
  | n + 1 => cm (pw a n) a
theorem pw_lt {a : Nat} (_h : a < 256) (n : Nat) : pw a n < 256 := by
  induction n with
  | zero => exact (by decide : (1 : Nat) < 256)
  | succ n ih => exact cm_lt _ ih
theorem pw_add {a : Nat} (h : a < 256) (m n : Nat) : pw a (m + n) = cm (pw a m) (pw a n) := by
  induction n with
  | zero => rw [Nat.add_zero, pw, cm_one (pw_lt h m)]
  | succ n ih => rw [← Nat.add_assoc, pw, ih, pw, cm_assoc (pw_lt h m) (pw_lt h n) h]
theorem pw_one {a : Nat} (h : a < 256) : pw a 1 = a := by rw [pw, pw, one_cm h]
theorem pw_sq {a : Nat} (h : a < 256) (k : Nat) : pw a (2 ^ (k + 1)) = cm (pw a (2 ^ k)) (pw a (2 ^ k)) := by
  rw [Nat.pow_succ, Nat.mul_two, pw_add h]
theorem pw_bit {a : Nat} (h : a < 256) (n k : Nat) : pw a (n % 2 ^ (k + 1)) = bif n.testBit k then cm (pw a (n % 2 ^ k)) (pw a (2 ^ k)) else pw a (n % 2 ^ k) := by
  have e : n % 2 ^ (k + 1) = n % 2 ^ k + 2 ^ k * (n / 2 ^ k % 2) := by rw [Nat.pow_succ, Nat.mod_mul]
  rw [Nat.testBit_eq_decide_div_mod_eq, e]
  rcases Nat.mod_two_eq_zero_or_one (n / 2 ^ k) with h0 | h1
  · rw [h0]; simp
  · rw [h1]; simp [pw_add h]
/-- A number reckoned ahead of what is told of it. -/
def strict (n : Nat) (f : Nat → Nat) : Nat := Nat.rec (f 0) (fun m _ => f (m + 1)) n
theorem strict_is (n : Nat) (f : Nat → Nat) : strict n f = f n := by cases n <;> rfl
def sqS : Nat → Nat → Nat
  | 0, a => a
  | k + 1, a => strict (cm a a) (sqS k)
theorem sqS_is (k : Nat) : ∀ a, a < 256 → sqS k a = pw a (2 ^ k) := by
  induction k with
  | zero => intro a h; exact (pw_one h).symm
  | succ k ih =>
    intro a h
    rw [sqS, strict_is, ih _ (cm_lt a h)]
    have key : ∀ n, pw (cm a a) n = pw a (2 * n) := by
      intro n
      induction n with
      | zero => rfl
      | succ n ihn =>
        rw [pw, ihn, show 2 * (n + 1) = 2 * n + 1 + 1 by omega, pw, pw, cm_assoc (pw_lt h _) h h]
    rw [key, Nat.pow_succ, Nat.mul_comm]
theorem pw_256 {a : Nat} (h : a < 256) : pw a 256 = a := by
  have key : ∀ a, a < 256 → sqS 8 a = a := by decide +kernel
  have := sqS_is 8 a h
  rw [key a h] at this
  exact this.symm
theorem pw_255 {a : Nat} (h : a < 256) (h0 : a ≠ 0) : pw a 255 = 1 := by
  have e : cm (pw a 255) a = a := pw_256 h
  have e2 := cm_assoc (pw_lt h 255) h (inv_lt h)
  rw [e, cm_inv h h0, cm_one (pw_lt h _)] at e2
  exact e2.symm
theorem pw_254 {a : Nat} (h : a < 256) : pw a 254 = inv a := by
  by_cases h0 : a = 0
  · subst h0
    rw [pw, cm_zero]
    rfl
  · exact inv_only h (pw_lt h _) (by rw [cm_comm h (pw_lt h _)]; exact pw_255 h h0)
theorem pw_zero (n : Nat) (h : 0 < n) : pw 0 n = 0 := by
  obtain ⟨m, rfl⟩ : ∃ m, n = m + 1 := ⟨n - 1, by omega⟩
  rw [pw, cm_zero]
theorem pw_round {a : Nat} (h : a < 256) (h0 : a ≠ 0) (n : Nat) : pw a (n + 255) = pw a n := by rw [pw_add h, pw_255 h h0, cm_one (pw_lt h _)]
theorem pw_mod {a : Nat} (h : a < 256) (h0 : a ≠ 0) (n : Nat) : pw a (n % 255 + 255) = pw a n := by
  have key : ∀ q r, pw a (r + 255 * q) = pw a r := by
    intro q
    induction q with
    | zero => intro r; rfl
    | succ q ih => intro r; rw [show r + 255 * (q + 1) = r + 255 * q + 255 by omega, pw_round h h0, ih]
  rw [pw_round h h0, ← key (n / 255) (n % 255), Nat.mod_add_div]

/-- Boxes. -/
def box (a : Nat) : Nat := boxT.getD a 0
/-- A byte turned right. -/
def rot (b n : Nat) : Nat := (b / 2 ^ n) ||| (b * 2 ^ (8 - n) % 256)
/-- The box of the byte that has this inverse. -/
def boxI (b : Nat) : Nat := b ^^^ 99 ^^^ rot b 4 ^^^ rot b 5 ^^^ rot b 6 ^^^ rot b 7
theorem box_all : ∀ a, a < 256 → boxI (inv a) = box a ∧ box a < 256 ∧ boxT.idxOf (box a) = a ∧ box a ≠ a ∧ box a ≠ 255 - a := by decide +kernel
theorem box_inj {a b : Nat} (ha : a < 256) (hb : b < 256) (h : box a = box b) : a = b := by
  rw [← (box_all a ha).2.2.1, ← (box_all b hb).2.2.1, h]
theorem rot_lt {b : Nat} (n : Nat) (h : b < 256) : rot b n < 256 := Nat.or_lt_two_pow (n := 8) (Nat.lt_of_le_of_lt (Nat.div_le_self _ _) h) (Nat.mod_lt _ (by omega))
end Go.Proofs.YtcecjoodlmpgnaaGreat
/- Arrays in memory, a block known whole, texts and bytes: words for what stage 6's functions do. Nothing of any function. -/
namespace Go.Proofs.YtcecjoodlmpgnaaGreat
open Go.RowKit

theorem size_of (s : List UInt8) : (⟨s.toArray⟩ : ByteArray).size = s.length := by simp [ByteArray.size]
theorem one_byte (b : UInt8) (W : World) : (convert 64 9 (.slice (some ⟨W.heap.size, 0, none⟩) 1 1)).run Tryz.prog (W.alloc (.cells #[.int .u8 (b.toNat : Int)] 5)) = .ok (.string ⟨[b].toArray⟩) (W.alloc (.cells #[.int .u8 (b.toNat : Int)] 5)) :=
  run_convert_bytes_back (P := Tryz.prog) (W.alloc (.cells #[.int .u8 (b.toNat : Int)] 5)) 64 9 5 ⟨W.heap.size, 0, none⟩ 1 [b] Tryz.underlying64 Tryz.underlying5 Tryz.underlying9 (fun j hj => by
    obtain rfl : j = 0 := by simpa using hj
    simp [Addr.add])

theorem byte_at (l : List UInt8) (k : Nat) (h : k < l.length) : (⟨l.toArray⟩ : ByteArray)[k]'(by simpa [ByteArray.size] using h) = l.getD k 0 := by
  have : (⟨l.toArray⟩ : ByteArray)[k]'(by simpa [ByteArray.size] using h) = l[k] := rfl
  rw [this]; simp [List.getD, h]

theorem index_is (S : ByteArray) (i : Nat) (k : Int) (b : UInt8) (hk : (i : Int) = k) (h : S[i]? = some b) (W : World) : (Instr.index 9 (.string S) (.int .i64 k)).run Tryz.prog W = .ok (.int .u8 (b.toNat : Int)) W := by
  subst hk
  have hlt : i < S.size := by
    rcases Nat.lt_or_ge i S.size with h' | h'
    · exact h'
    · rw [getElem?_neg _ _ (by omega)] at h; cases h
  have hb : S[i] = b := by rw [getElem?_pos S i hlt] at h; exact Option.some.inj h
  rw [run_index_string (h := Tryz.underlying9), dif_pos ⟨by omega, by omega⟩]
  simp [hb]

theorem xor_byte (a c : UInt8) : bits .xor .u8 (a.toNat : Int) (c.toNat : Int) = ((a ^^^ c).toNat : Int) := by
  have ha := a.toNat_lt
  have hc := c.toNat_lt
  rw [u8_xor_nat _ _ (by omega) (by omega), UInt8.toNat_xor]

theorem at_get (l : List UInt8) (k : Nat) (h : k < l.length) : (⟨l.toArray⟩ : ByteArray)[k]? = some (l.getD k 0) := by
  have hs : k < (⟨l.toArray⟩ : ByteArray).size := by simpa [ByteArray.size] using h
  rw [getElem?_pos (⟨l.toArray⟩ : ByteArray) k hs, byte_at l k h]
theorem setCells_blk {w : World} {g : Nat} {t : TypeId} (l : List Value) : ∀ (o : Nat) (cs : Array Value), Blk w g t cs → ∀ A : List Value, A.length = o → ∀ C : List Value, C.length = l.length → cs = (A ++ C).toArray → Blk (w.setCells g o l) g t (A ++ l).toArray := by
  induction l generalizing w with
  | nil =>
    intro o cs h A hA C hC e
    have : C = [] := List.eq_nil_of_length_eq_zero hC
    subst this
    subst e
    exact h
  | cons v l ih =>
    intro o cs h A hA C hC e
    obtain ⟨c, C', rfl⟩ : ∃ c C', C = c :: C' := by
      cases C with
      | nil => simp at hC
      | cons c C' => exact ⟨c, C', rfl⟩
    have h2 := h.set_ o v
    have e2 : cs.setIfInBounds o v = (A ++ [v] ++ C').toArray := by
      subst e hA
      simp
    have := ih (o + 1) _ h2 (A ++ [v]) (by simp [hA]) C' (by simpa using hC) e2
    simpa [World.setCells] using this
theorem Blk.whole {w : World} {g : Nat} {t : TypeId} {cs : Array Value} (h : Blk w g t cs) (l : List Value) (hl : l.length = cs.size) : Blk (w.setCells g 0 l) g t l.toArray := by
  have := setCells_blk l 0 cs h [] rfl cs.toList (by simp [hl]) (by simp)
  simpa using this
theorem setCells_heap (l : List Value) : ∀ (w : World) (g o k : Nat), k ≠ g → (w.setCells g o l).heap[k]? = w.heap[k]? := by
  induction l with
  | nil => intro w g o k _; rfl
  | cons v l ih => intro w g o k hk; rw [World.setCells, ih _ _ _ _ hk]; exact Below.heap_setCell w ⟨g, o, none⟩ v k hk
theorem Blk.far_ {w : World} {g k : Nat} {t : TypeId} {cs : Array Value} (h : Blk w k t cs) (hk : k ≠ g) (o : Nat) (l : List Value) : Blk (w.setCells g o l) k t cs := (setCells_heap l w g o k hk).trans h
theorem below_setCells {B g : Nat} (hg : B ≤ g) (l : List Value) : ∀ (o : Nat) (w w1 : World), Below B w w1 → Below B w (w1.setCells g o l) := by
  induction l with
  | nil => intro o w w1 h; exact h
  | cons v l ih => intro o w w1 h; exact ih (o + 1) w _ (h.setCell (p := ⟨g, o, none⟩) hg v)
theorem bw {w w1 : World} (h : Below w.heap.size w w1) {g : Nat} (hg : w.heap.size ≤ g) (o : Nat) (l : List Value) : Below w.heap.size w (w1.setCells g o l) := below_setCells hg l o w w1 h
theorem Blk.there {w : World} {g : Nat} {t : TypeId} {cs : Array Value} (h : Blk w g t cs) {n : Nat} (hn : n ≤ cs.size) : w.there g 0 n := fun j hj => by
  rw [Nat.zero_add]
  refine ⟨?_, h.frozen j⟩
  rw [h.cell j]
  have : j < cs.size := by omega
  simp [this]
@[simp] theorem size_setCells (l : List Value) : ∀ (w : World) (g o : Nat), (w.setCells g o l).heap.size = w.heap.size := by
  induction l with
  | nil => intro w g o; rfl
  | cons v l ih => intro w g o; rw [World.setCells, ih]; simp [World.setCell]
theorem heap_alloc_new' (W : World) (o : Obj) {n : Nat} (h : W.heap.size = n) : (W.alloc o).heap[n]? = some o := by subst h; exact heap_alloc_new W o
theorem news_new (W : World) (l : List Value) (t : TypeId) (j : Nat) (u : Value) (hj : l[j]? = some u) : (W.alloc (.cells l.toArray t)).cell? ((⟨W.heap.size, 0, none⟩ : Addr).add j) = some u := by
  rw [Addr.add_mid, Nat.zero_add, cell_of_row _ _ _ _ _ _ (heap_alloc_new W _)]
  simpa using hj
theorem own_alloc {W : World} {base : Nat} {e : TypeId} {size : Nat} {v : Value} {n : Nat} {xs : List Value} (h : W.ownsRow base e size v n xs) (o : Obj) : (W.alloc o).ownsRow base e size v n xs := by
  obtain ⟨h1, h2⟩ := h
  refine ⟨h1, ?_⟩
  rcases h2 with h2 | ⟨g, cap, cur, hv, hg, hh, r⟩
  · exact Or.inl h2
  · exact Or.inr ⟨g, cap, cur, hv, hg, (Below.heap_alloc W o g (Array.getElem?_eq_some_iff.1 hh).1).trans hh, r⟩
theorem own_text {W : World} {base g c n : Nat} {l : List UInt8} (h : W.ownsRow base 5 1 (.slice (some ⟨g, 0, none⟩) n c) n (Lib.byteCells l)) (hn : l.length = n) : (convert 64 9 (.slice (some ⟨g, 0, none⟩) n c)).run Tryz.prog W = .ok (.string ⟨l.toArray⟩) W := by
  subst hn
  refine run_convert_bytes_back (P := Tryz.prog) W 64 9 5 ⟨g, 0, none⟩ c l Tryz.underlying64 Tryz.underlying5 Tryz.underlying9 (fun j hj => ?_)
  rw [Addr.add_mid, Nat.zero_add, h.cellAt j (by simpa using hj)]
  simp [Lib.byteCells, hj]
theorem bdn' {B : Nat} {a w : World} (h : Below B a w) (n : Nat) : Below B a (w.drewN n) := ⟨h.os, h.tape, h.output, h.size, h.block⟩
theorem drewN_name (w : World) (n : Nat) : ∃ w1, w.drewN n = w1 := ⟨_, rfl⟩

/-- A byte's cell. -/
abbrev uv (b : UInt8) : Value := .int .u8 (b.toNat : Int)
def ub (L : List UInt8) (i : Nat) : UInt8 := L.getD i 0
theorem ub_at {L : List UInt8} {i : Nat} (h : i < L.length) : ub L i = L[i] := by simp [ub, List.getD, h]
theorem row_at {L : List UInt8} {i : Nat} (h : i < L.length) : ((L.map uv).toArray)[i]? = some (uv (ub L i)) := by
  rw [ub_at h]; simp [h]
theorem uvs_one (L : List UInt8) : ∀ v ∈ L.map uv, v.oneCell' = true := by
  intro v hv
  obtain ⟨x, _, rfl⟩ := List.mem_map.1 hv
  rfl
theorem byteCells_uv (L : List UInt8) : Lib.byteCells L = L.map uv := rfl
theorem list_ext {A B : List UInt8} {n : Nat} (ha : A.length = n) (hb : B.length = n) (h : ∀ i, i < n → ub A i = ub B i) : A = B := by
  apply List.ext_getElem
  · rw [ha, hb]
  · intro i h1 h2
    rw [← ub_at h1, ← ub_at h2]
    exact h i (by omega)
/-- So many bytes, by their places. -/
def tab (n : Nat) (f : Nat → UInt8) : List UInt8 := (List.range n).map f
theorem tab_len (n : Nat) (f : Nat → UInt8) : (tab n f).length = n := by simp [tab]
theorem ub_tab {n : Nat} (f : Nat → UInt8) {i : Nat} (h : i < n) : ub (tab n f) i = f i := by
  rw [ub_at (by rw [tab_len]; exact h)]
  simp [tab]
theorem tab_ub {L : List UInt8} {n : Nat} (h : L.length = n) : tab n (ub L) = L := list_ext (tab_len _ _) h fun _ hi => ub_tab _ hi
theorem tab_ext {n : Nat} {f g : Nat → UInt8} (h : ∀ i, i < n → f i = g i) : tab n f = tab n g := list_ext (tab_len _ _) (tab_len _ _) fun i hi => by rw [ub_tab _ hi, ub_tab _ hi, h i hi]
/-- So many bytes of one list, and the others of another one. -/
def cutL (k : Nat) (N M : List UInt8) : List UInt8 := N.take k ++ M.drop k
theorem cutL_zero (N M : List UInt8) : cutL 0 N M = M := by simp [cutL]
theorem cutL_all {N M : List UInt8} {n : Nat} (hn : N.length = n) (hm : M.length = n) : cutL n N M = N := by
  subst hn
  simp [cutL, List.drop_of_length_le (Nat.le_of_eq hm)]
theorem cutL_len {N M : List UInt8} {n k : Nat} (hn : N.length = n) (hm : M.length = n) (h : k ≤ n) : (cutL k N M).length = n := by
  simp [cutL, hn, hm]; omega
theorem ub_cutL {N M : List UInt8} {n k i : Nat} (hn : N.length = n) (hm : M.length = n) (h : k ≤ n) (hi : i < n) : ub (cutL k N M) i = if i < k then ub N i else ub M i := by
  rw [ub_at (by rw [cutL_len hn hm h]; exact hi)]
  unfold cutL
  by_cases hik : i < k
  · rw [if_pos hik, List.getElem_append_left (by rw [List.length_take]; omega), List.getElem_take, ub_at (by omega)]
  · rw [if_neg hik, List.getElem_append_right (by rw [List.length_take]; omega), List.getElem_drop, ub_at (by omega)]
    congr 1
    rw [List.length_take]; omega
theorem cutL_set {N M : List UInt8} {n k : Nat} (hn : N.length = n) (hm : M.length = n) (h : k < n) : ((cutL k N M).map uv).toArray.setIfInBounds k (uv (ub N k)) = ((cutL (k + 1) N M).map uv).toArray := by
  have l1 := cutL_len (k := k) hn hm (by omega)
  have l2 := cutL_len (k := k + 1) hn hm (by omega)
  apply Array.ext
  · simp [l1, l2]
  · intro i h1 h2
    have hi : i < n := by simpa [l2] using h2
    have e2 := row_at (L := cutL (k + 1) N M) (i := i) (by omega)
    rw [Array.getElem?_eq_getElem h2] at e2
    rw [Option.some.inj e2, Array.getElem_setIfInBounds (by simpa [l1] using hi), ub_cutL hn hm (by omega) hi]
    by_cases hik : k = i
    · subst hik
      rw [if_pos rfl, if_pos (by omega)]
    · have e1 := row_at (L := cutL k N M) (i := i) (by omega)
      rw [Array.getElem?_eq_getElem (by simpa [l1] using hi)] at e1
      rw [if_neg hik, Option.some.inj e1, ub_cutL hn hm (by omega) hi]
      by_cases hl : i < k
      · rw [if_pos hl, if_pos (by omega)]
      · rw [if_neg hl, if_neg (by omega)]
theorem cutL_set4 {N M : List UInt8} {n k : Nat} (hn : N.length = n) (hm : M.length = n) (h : k + 4 ≤ n) :
    ((((((cutL k N M).map uv).toArray.setIfInBounds k (uv (ub N k))).setIfInBounds (k + 1) (uv (ub N (k + 1)))).setIfInBounds (k + 2) (uv (ub N (k + 2)))).setIfInBounds (k + 3) (uv (ub N (k + 3)))) = ((cutL (k + 4) N M).map uv).toArray := by
  rw [cutL_set hn hm (by omega), cutL_set hn hm (by omega), cutL_set hn hm (by omega), cutL_set hn hm (by omega)]
theorem four_list {L : List UInt8} (h : L.length = 4) : ∃ a b c d, L = [a, b, c, d] := by
  match L, h with
  | [a, b, c, d], _ => exact ⟨a, b, c, d, rfl⟩
theorem tab4 (f : Nat → UInt8) : tab 4 f = [f 0, f 1, f 2, f 3] := rfl
end Go.Proofs.YtcecjoodlmpgnaaGreat
/- The reference's product, inverse and box in plain numbers, and that they are the code's. -/
namespace Go.Proofs.YtcecjoodlmpgnaaGreat

/-- The long product, of so many bits. -/
def longN (a b : Nat) : Nat → Nat
  | 0 => 0
  | k + 1 => longN a b k ^^^ sel (b.testBit k) (a * 2 ^ k)
/-- What is left of it behind so many steps. -/
def leftN (n : Nat) : Nat → Nat
  | 0 => n
  | j + 1 => leftN n j ^^^ sel ((leftN n j).testBit (14 - j)) (283 * 2 ^ (6 - j))
theorem lin_longL (b k : Nat) : Lin fun a => longN a b k := by
  induction k with
  | zero => exact Lin.none
  | succ k ih => exact Lin.add (f := fun a => longN a b k) ih (Lin.sel (f := fun a => a * 2 ^ k) (lin_mul k) _)
theorem lin_longR (a k : Nat) : Lin fun b => longN a b k := by
  induction k with
  | zero => exact Lin.none
  | succ k ih => exact Lin.add (f := fun b => longN a b k) ih (Lin.bit k _)
theorem lin_leftN (j : Nat) : Lin fun n => leftN n j := by
  induction j with
  | zero => exact Lin.self
  | succ j ih => exact Lin.add (f := fun n => leftN n j) ih (Lin.comp (f := fun m => sel (m.testBit (14 - j)) (283 * 2 ^ (6 - j))) (Lin.bit _ _) ih)
def rm (a b : Nat) : Nat := leftN (longN a b 8) 7 % 256
theorem rm_is {a b : Nat} (ha : a < 256) (hb : b < 256) : rm a b = cm a b := by
  have key : ∀ i, i < 8 → ∀ j, j < 8 → rm (2 ^ i) (2 ^ j) = cm (2 ^ i) (2 ^ j) := by decide +kernel
  have hl : ∀ b, Lin fun a => rm a b := fun b => Lin.comp (f := fun n => leftN n 7 % 256) (Lin.comp (f := fun n => n % 256) (lin_mod 8) (lin_leftN 7)) (lin_longL b 8)
  have hr : ∀ a, Lin fun b => rm a b := fun a => Lin.comp (f := fun n => leftN n 7 % 256) (Lin.comp (f := fun n => n % 256) (lin_mod 8) (lin_leftN 7)) (lin_longR a 8)
  exact byte_ext (f := fun a => rm a b) (g := fun a => cm a b) (hl b) (cm_left b) (fun i hi =>
    byte_ext (f := fun b => rm (2 ^ i) b) (g := fun b => cm (2 ^ i) b) (hr _) (cm_right _) (key i hi) b hb) a ha
theorem xor_lt15 {a b : Nat} (h : a < 32768) (k : b < 32768) : a ^^^ b < 32768 := Nat.xor_lt_two_pow (n := 15) h k
theorem mul_pow_le (a k m : Nat) (ha : a ≤ 283) (hk : k ≤ m) : a * 2 ^ k ≤ 283 * 2 ^ m := Nat.mul_le_mul ha (Nat.pow_le_pow_right (by omega) hk)
theorem longN_lt {a : Nat} (ha : a < 256) (b k : Nat) (hk : k ≤ 8) : longN a b k < 32768 := by
  induction k with
  | zero => exact (by decide : (0 : Nat) < 32768)
  | succ k ih =>
    have h1 : a * 2 ^ k ≤ 255 * 2 ^ 7 := Nat.mul_le_mul (by omega) (Nat.pow_le_pow_right (by omega) (by omega))
    exact xor_lt15 (ih (by omega)) (sel_lt (by omega) (by omega))
theorem leftN_lt {n : Nat} (hn : n < 32768) (j : Nat) (hj : j ≤ 7) : leftN n j < 32768 := by
  induction j with
  | zero => exact hn
  | succ j ih =>
    have h1 := mul_pow_le 283 (6 - j) 6 (by omega) (by omega)
    exact xor_lt15 (ih (by omega)) (sel_lt (by omega) (by omega))

/-- A byte's box, so many bits of it. -/
def sumB (b i : Nat) : Nat := b / 2 ^ i % 2 + b / 2 ^ ((i + 4) % 8) % 2 + b / 2 ^ ((i + 5) % 8) % 2 + b / 2 ^ ((i + 6) % 8) % 2 + b / 2 ^ ((i + 7) % 8) % 2 + 99 / 2 ^ i % 2
def rbox (b : Nat) : Nat → Nat
  | 0 => 0
  | k + 1 => rbox b k + sumB b k % 2 * 2 ^ k
theorem rbox_lt (b k : Nat) : rbox b k < 2 ^ k := by
  induction k with
  | zero => exact (by decide : (0 : Nat) < 1)
  | succ k ih =>
    rw [rbox, Nat.pow_succ]
    rcases Nat.mod_two_eq_zero_or_one (sumB b k) with h | h <;> rw [h] <;> omega
theorem rbox_is {b : Nat} (h : b < 256) : rbox b 8 = boxI b := by
  have key : ∀ b, b < 256 → rbox b 8 = boxI b := by decide +kernel
  exact key b h
theorem box_of {a : Nat} (h : a < 256) : boxI (inv a) = box a := (box_all a h).1
theorem box_lt {a : Nat} (h : a < 256) : box a < 256 := (box_all a h).2.1
theorem rbox_inv {a : Nat} (h : a < 256) : rbox (inv a) 8 = box a := by rw [rbox_is (inv_lt h), box_of h]
end Go.Proofs.YtcecjoodlmpgnaaGreat
/- The contract of double. -/
namespace Go.Proofs.YtcecjoodlmpgnaaGreat
open Go.RowKit

theorem ret_u8 {a b : Nat} (h : a = b) : Ending.returned (.int .u8 (a : Int)) = .returned (.int .u8 (b : Int)) := by rw [h]
theorem dbl_lo {a : Nat} (h : a < 128) : dbl a = a * 2 := by
  have key : ∀ a, a < 128 → dbl a = a * 2 := by decide +kernel
  exact key a h
theorem dbl_hi {a : Nat} (h : 128 ≤ a) (h2 : a < 256) : dbl a = ((a - 128) * 2) ^^^ 27 := by
  have key : ∀ a, a < 128 → dbl (a + 128) = (a * 2) ^^^ 27 := by decide +kernel
  have := key (a - 128) (by omega)
  rwa [Nat.sub_add_cancel h] at this
set_option maxRecDepth 100000 in
set_option maxHeartbeats 1000000 in
theorem dbl_any (a : Nat) (w : World) (ha : (a : Int) < 256) :
    Calls Tryz.prog 115 #[.int .u8 (a : Int)] w fun e w' => e = .returned (.int .u8 (dbl a : Nat)) ∧ w = w' := by
  by_cases h : a < 128
  · have h1 : ((a : Int) / 128 == 0) = true := by simp; omega
    have h2 : ((a : Int) / 128 != 0) = false := by simp; omega
    have H := Lib.hid (dbl_lo h)
    have h3 : (a : Int) < 128 := by omega
    clear h
    go_enter Tryz.func115, Tryz.ntmps115
    go_wp2
    go_ret
    rw [H.out]
    exact ⟨by simp, rfl⟩
  · have h1 : ((a : Int) / 128 == 0) = false := by simp; omega
    have h2 : ((a : Int) / 128 != 0) = true := by simp; omega
    have H : Hid (((dbl a : Nat) : Int) = bits .xor .u8 ((a : Int) * 2 % 256) 27) := Lib.hid (by
      rw [dbl_hi (by omega) (by omega), show ((a : Int) * 2 % 256) = (((a - 128) * 2 : Nat) : Int) by omega]
      exact (u8_xor_nat ((a - 128) * 2) 27 (by omega) (by omega)).symm)
    have h3 : (128 : Int) ≤ (a : Int) := by omega
    clear h
    go_enter Tryz.func115, Tryz.ntmps115
    go_wp2
    go_ret
    rw [H.out]
    exact ⟨rfl, rfl⟩
end Go.Proofs.YtcecjoodlmpgnaaGreat
/- The contract of Mul: two bytes' product. -/
namespace Go.Proofs.YtcecjoodlmpgnaaGreat
open Go.RowKit

theorem and1_u8 (b : Nat) (h : b < 256) : bits .and .u8 (b : Int) 1 = ((b % 2 : Nat) : Int) := by
  have h1 := u8_and_nat b 1 h (by omega)
  rw [Nat.and_one_is_mod] at h1
  exact h1
set_option maxRecDepth 100000 in
set_option maxHeartbeats 1000000 in
theorem mul_any (a b : Nat) (w : World) (ha : (a : Int) < 256) (hb : (b : Int) < 256) :
    Calls Tryz.prog 85 #[.int .u8 (a : Int), .int .u8 (b : Int)] w fun e w' => e = .returned (.int .u8 (cm a b : Nat)) ∧ w = w' := by
  have HC : Hid (mulF 8 0 a b = cm a b) := Lib.hid (by rw [mulF_is, Nat.zero_xor]; rfl)
  go_enter Tryz.func85, Tryz.ntmps85
  go_wp2_with fail
  go_loop [0, 1, 5] (fun av bv pv => ∃ k p x y : Nat, y < 2 ^ k ∧ k ≤ 8 ∧ av = .int .u8 (x : Int) ∧ bv = .int .u8 (y : Int) ∧ pv = .int .u8 (p : Int) ∧ (x : Int) < 256 ∧ (p : Int) < 256 ∧ (y : Int) < 256 ∧ Hid (mulF k p x y = cm a b)) (fun _ bv _ => (intOf bv).toNat)
  case atStart => exact ⟨8, 0, a, b, by omega, Nat.le_refl _, rfl, rfl, rfl, by omega, by omega, by omega, HC⟩
  case round =>
    clear HC
    obtain ⟨k, p, x, y, hy, hk, rfl, rfl, rfl, hx, hp, hyy, HF⟩ := hrel
    by_cases h0 : y = 0
    · subst h0
      have HE : Hid (cm a b = p) := Lib.hid (by rw [← HF.out, mulF_zero])
      go_wp2_with fail
      go_ret
      rw [HE.out]
      exact ⟨rfl, rfl⟩
    · obtain ⟨j, rfl⟩ : ∃ j, k = j + 1 := ⟨k - 1, by
        cases k with
        | zero => simp at hy; omega
        | succ k => rfl⟩
      have hy2 : y / 2 < 2 ^ j := by rw [Nat.pow_succ] at hy; omega
      have hand := and1_u8 y (by omega)
      have hy0 : ((y : Int) == 0) = false := by simp; omega
      have hy1 : ((y : Int) != 0) = true := by simp; omega
      have hlt := dbl_lt x
      have hlt' : ((dbl x : Nat) : Int) < 256 := by omega
      have HD := Lib.hid (dbl_any x w hx)
      have hpos : 0 < y := by omega
      clear hlt hy
      rcases Nat.mod_two_eq_zero_or_one y with hm | hm
      · rw [hm] at hand
        have HE : Hid (mulF j p (dbl x) (y / 2) = cm a b) := Lib.hid (by
          rw [← HF.out, mulF, Nat.testBit_eq_decide_div_mod_eq]; simp [hm, sel])
        have HM := Lib.hid hm
        clear hm h0
        go_wp2_with fail
        refine HD.out.mono ?_
        rintro e w1 ⟨rfl, rfl⟩
        go_wp2_with fail
        exact ⟨⟨j, p, dbl x, y / 2, hy2, by omega, rfl, by simp, rfl, hlt', hp, by omega, HE⟩, by simp [intOf]; omega⟩
      · rw [hm] at hand
        have hq : p ^^^ x < 256 := xor_lt8 (by omega) (by omega)
        have hxor := u8_xor_nat p x (by omega) (by omega)
        have HE : Hid (mulF j (p ^^^ x) (dbl x) (y / 2) = cm a b) := Lib.hid (by
          rw [← HF.out, mulF, Nat.testBit_eq_decide_div_mod_eq]; simp [hm, sel])
        have hq' : ((p ^^^ x : Nat) : Int) < 256 := by omega
        obtain ⟨q, hqq⟩ : ∃ q, p ^^^ x = q := ⟨_, rfl⟩
        rw [hqq] at hxor HE hq'
        have HM := Lib.hid hm
        clear hm h0 hq hqq
        go_wp2_with fail
        refine HD.out.mono ?_
        rintro e w1 ⟨rfl, rfl⟩
        go_wp2_with fail
        exact ⟨⟨j, q, dbl x, y / 2, hy2, by omega, rfl, by simp, rfl, hlt', hq', by omega, HE⟩, by simp [intOf]; omega⟩
end Go.Proofs.YtcecjoodlmpgnaaGreat
/- The contracts of Pow and Inv. -/
namespace Go.Proofs.YtcecjoodlmpgnaaGreat
open Go.RowKit

theorem bitLen_cov (x : Nat) (h : x < 2 ^ 64) : x < 2 ^ Lib.bitLen x := by
  have key : ∀ f x, x < 2 ^ f → x < 2 ^ Lib.bitLenAux f x := by
    intro f
    induction f with
    | zero => intro x h; exact h
    | succ f ih =>
      intro x h
      rw [Lib.bitLenAux]
      split
      · omega
      · have := ih (x / 2) (by rw [Nat.pow_succ] at h; omega)
        rw [Nat.add_comm 1, Nat.pow_succ]
        omega
  exact key 64 x h
theorem and1_i64 (b : Nat) (h : b < 9223372036854775808) : bits .and .i64 (b : Int) 1 = ((b % 2 : Nat) : Int) := by
  have h1 := (bits_nat .i64 63 (by decide) (fun n h0 h1 => by rw [IntKind.wrap_i64]; omega) b 1 h (by omega)).1
  rw [Nat.and_one_is_mod] at h1
  exact h1

set_option maxRecDepth 100000 in
set_option maxHeartbeats 1000000 in
theorem len_any (n : Nat) (w : World) (hn : (n : Int) ≤ 9223372036854775807) :
    Calls Tryz.prog 131 #[.int .u64 (n : Int)] w fun e w' => e = .returned (.int .i64 (Lib.bitLen n : Nat)) ∧ w = w' := by
  have H := Lib.hid (len64_any (n : Int) w (by omega) (by omega))
  go_enter Tryz.func131, Tryz.ntmps131
  go_wp2_with fail
  refine H.out.mono ?_
  rintro e w' ⟨rfl, rfl⟩
  go_wp2_with fail
  go_ret
  exact ⟨rfl, rfl⟩

set_option maxRecDepth 100000 in
set_option maxHeartbeats 2000000 in
theorem pow_any (a : Nat) (n : Int) (w : World) (ha : (a : Int) < 256) (hn : n ≤ 9223372036854775807) (hn0 : -9223372036854775808 ≤ n) :
    Calls Tryz.prog 114 #[.int .u8 (a : Int), .int .i64 n] w fun e w' => e = .returned (.int .u8 (pw a n.toNat : Nat)) ∧ w = w' := by
  have ha' : a < 256 := by omega
  obtain ⟨m, hm⟩ : ∃ m : Nat, n.toNat = m := ⟨_, rfl⟩
  have hmx : max n 0 = (m : Int) := by omega
  have hmb : (m : Int) ≤ 9223372036854775807 := by omega
  have hL := bitLen_cov m (by omega)
  have hL2 := Lib.bitLen_le m 63 (by omega) (by omega)
  have HL := Lib.hid (len_any m w hmb)
  obtain ⟨L, hLL⟩ : ∃ L, Lib.bitLen m = L := ⟨_, rfl⟩
  rw [hLL] at hL hL2 HL
  rw [hm]
  have HN : Hid (L = 0 ∨ n = (m : Int)) := Lib.hid (by
    by_cases h : 0 ≤ n
    · right; omega
    · left
      have : m = 0 := by omega
      subst this
      rw [← hLL]
      rfl)
  clear hLL hm
  go_enter Tryz.func114, Tryz.ntmps114
  go_wp2_with fail
  refine HL.out.mono ?_
  rintro e w' ⟨rfl, rfl⟩
  clear hmx
  have H0 : Hid (pw a (m % 2 ^ 0) = 1) := Lib.hid (by simp [Nat.mod_one, pw])
  have H1 : Hid (pw a (2 ^ 0) = a) := Lib.hid (pw_one ha')
  go_wp2_with fail
  go_loop [5, 6, 13] (fun pv sv iv => ∃ k p s : Nat, k ≤ L ∧ pv = .int .u8 (p : Int) ∧ sv = .int .u8 (s : Int) ∧ iv = .int .i64 (k : Int) ∧ (p : Int) < 256 ∧ (s : Int) < 256 ∧ Hid (pw a (m % 2 ^ k) = p) ∧ Hid (pw a (2 ^ k) = s)) (fun _ _ iv => L - (intOf iv).toNat)
  case atStart => exact ⟨0, 1, a, Nat.zero_le _, rfl, rfl, rfl, by omega, by omega, H0, H1⟩
  case round =>
    clear H0 H1
    obtain ⟨k, p, s, hk, rfl, rfl, rfl, hp, hs, HP, HS⟩ := hrel
    by_cases hlt : k < L
    · have HX := Lib.hid (pw_bit ha' m k)
      have HY := Lib.hid (pw_sq ha' k)
      rw [HP.out, HS.out] at HX
      rw [HS.out] at HY
      have hnm : n = (m : Int) := by
        rcases HN.out with h | h
        · omega
        · exact h
      subst hnm
      have hq : m / 2 ^ k ≤ 9223372036854775807 := Nat.le_trans (Nat.div_le_self _ _) (by omega)
      have hsh : (m : Int) / 2 ^ k = ((m / 2 ^ k : Nat) : Int) := by simp
      obtain ⟨q, hqq⟩ : ∃ q, m / 2 ^ k = q := ⟨_, rfl⟩
      rw [hqq] at hsh hq
      have hand := and1_i64 q (by omega)
      have HB : Hid (m.testBit k = decide (q % 2 = 1)) := Lib.hid (by rw [Nat.testBit_eq_decide_div_mod_eq, hqq])
      have hps := cm_lt (a := p) s (by omega)
      have hss := cm_lt (a := s) s (by omega)
      have hps' : ((cm p s : Nat) : Int) < 256 := by omega
      have hss' : ((cm s s : Nat) : Int) < 256 := by omega
      have HM := Lib.hid (mul_any p s w hp hs)
      have HM2 := Lib.hid (mul_any s s w hs hs)
      have hk63 : k ≤ 62 := by omega
      clear hps hss hqq HN hL
      rcases Nat.mod_two_eq_zero_or_one q with hm | hm
      · rw [hm] at hand
        rw [HB.out, hm] at HX
        have HE : Hid (pw a (m % 2 ^ (k + 1)) = p) := Lib.hid (by rw [HX.out]; simp)
        clear hm HX HB
        go_wp2_with fail
        refine HM2.out.mono ?_
        rintro e w1 ⟨rfl, rfl⟩
        go_wp2_with fail
        exact ⟨⟨k + 1, p, cm s s, by omega, rfl, rfl, by go_num, hp, hss', HE, HY⟩, by simp [intOf]; omega⟩
      · rw [hm] at hand
        rw [HB.out, hm] at HX
        have HE : Hid (pw a (m % 2 ^ (k + 1)) = cm p s) := Lib.hid (by rw [HX.out]; simp)
        clear hm HX HB
        go_wp2_with fail
        refine HM.out.mono ?_
        rintro e w1 ⟨rfl, rfl⟩
        go_wp2_with fail
        refine HM2.out.mono ?_
        rintro e w1 ⟨rfl, rfl⟩
        go_wp2_with fail
        exact ⟨⟨k + 1, cm p s, cm s s, by omega, rfl, rfl, by go_num, hps', hss', HE, HY⟩, by simp [intOf]; omega⟩
    · obtain rfl : k = L := by omega
      have HE : Hid (pw a m = p) := Lib.hid (by rw [← HP.out, Nat.mod_eq_of_lt hL])
      go_wp2_with fail
      go_ret
      rw [HE.out]
      exact ⟨rfl, rfl⟩

set_option maxRecDepth 100000 in
set_option maxHeartbeats 1000000 in
theorem inv_any (a : Nat) (w : World) (ha : (a : Int) < 256) :
    Calls Tryz.prog 84 #[.int .u8 (a : Int)] w fun e w' => e = .returned (.int .u8 (inv a : Nat)) ∧ w = w' := by
  have H := Lib.hid (pow_any a 254 w ha (by omega) (by omega))
  have HE : Hid (pw a (Int.toNat 254) = inv a) := Lib.hid (pw_254 (by omega))
  go_enter Tryz.func84, Tryz.ntmps84
  go_wp2_with fail
  refine H.out.mono ?_
  rintro e w' ⟨rfl, rfl⟩
  rw [HE.out]
  go_wp2_with fail
  go_ret
  exact ⟨rfl, rfl⟩
end Go.Proofs.YtcecjoodlmpgnaaGreat
/- The contracts of the reference: Bit, pow, Mul, Inv, Pow. -/
namespace Go.Proofs.YtcecjoodlmpgnaaGreat
open Go.RowKit

theorem xor_i64 (a b : Nat) (ha : a < 32768) (hb : b < 32768) : bits .xor .i64 (a : Int) (b : Int) = ((a ^^^ b : Nat) : Int) := by
  have h := xor_lt15 ha hb
  show IntKind.i64.wrap ((BitVec.ofInt 64 (a : Int) ^^^ BitVec.ofInt 64 (b : Int)).toNat : Nat) = _
  rw [BitVec.ofInt_natCast, BitVec.ofInt_natCast, BitVec.toNat_xor, BitVec.toNat_ofNat, BitVec.toNat_ofNat, Nat.mod_eq_of_lt (by omega), Nat.mod_eq_of_lt (by omega), IntKind.wrap_i64]
  omega

set_option maxRecDepth 100000 in
set_option maxHeartbeats 1000000 in
theorem rbit_any (n i : Nat) (w : World) (hn : (n : Int) ≤ 9223372036854775807) (hi : i ≤ 62) :
    Calls Tryz.prog 127 #[.int .i64 (n : Int), .int .i64 (i : Int)] w fun e w' => e = .returned (.int .i64 (n / 2 ^ i % 2 : Nat)) ∧ w = w' := by
  have hq : n / 2 ^ i ≤ 9223372036854775807 := Nat.le_trans (Nat.div_le_self _ _) (by omega)
  have hsh : (n : Int) / 2 ^ i = ((n / 2 ^ i : Nat) : Int) := by simp
  obtain ⟨q, hqq⟩ : ∃ q, n / 2 ^ i = q := ⟨_, rfl⟩
  rw [hqq] at hsh hq
  rw [hqq]
  have hand := and1_i64 q (by omega)
  obtain ⟨r, hr⟩ : ∃ r, q % 2 = r := ⟨_, rfl⟩
  rw [hr] at hand
  rw [hr]
  clear hqq hr
  go_enter Tryz.func127, Tryz.ntmps127
  go_wp2
  go_ret
  exact ⟨rfl, rfl⟩
set_option maxRecDepth 100000 in
set_option maxHeartbeats 1000000 in
theorem rpow_any (i : Nat) (w : World) (hi : i ≤ 10) :
    Calls Tryz.prog 128 #[.int .i64 (i : Int)] w fun e w' => e = .returned (.int .i64 (2 ^ i : Nat)) ∧ w = w' := by
  have hp : 2 ^ i ≤ 2 ^ 10 := Nat.pow_le_pow_right (by omega) hi
  have hw : (2 : Int) ^ i = ((2 ^ i : Nat) : Int) := by simp
  obtain ⟨q, hqq⟩ : ∃ q, 2 ^ i = q := ⟨_, rfl⟩
  rw [hqq] at hw hp
  rw [hqq]
  clear hqq
  have hw2 : IntKind.i64.wrap (q : Int) = (q : Int) := by rw [IntKind.wrap_i64]; omega
  go_enter Tryz.func128, Tryz.ntmps128
  go_wp2
  go_ret
  exact ⟨rfl, rfl⟩

theorem longN_bit (a b k : Nat) : longN a b (k + 1) = if b / 2 ^ k % 2 = 1 then longN a b k ^^^ (a * 2 ^ k) else longN a b k := by
  rw [longN, Nat.testBit_eq_decide_div_mod_eq]
  by_cases h : b / 2 ^ k % 2 = 1 <;> simp [h, sel]
theorem leftN_bit (n j : Nat) : leftN n (j + 1) = if leftN n j / 2 ^ (14 - j) % 2 = 1 then leftN n j ^^^ (283 * 2 ^ (6 - j)) else leftN n j := by
  rw [leftN, Nat.testBit_eq_decide_div_mod_eq]
  by_cases h : leftN n j / 2 ^ (14 - j) % 2 = 1 <;> simp [h, sel]

end Go.Proofs.YtcecjoodlmpgnaaGreat
