/- Texts of this seat, one behind the other: GBits, GWord, GRMath. -/
import Derived.Test.YtcecjoodlmpgnaaQ02
/- Sixteen bytes, two words and a block's number, bit by bit. Nothing of any function. -/
namespace Go.Proofs.Ytcecjoodlmpgnaa

/-- The number of so many bits. -/
def mkN : Nat → (Nat → Bool) → Nat
  | 0, _ => 0
  | n + 1, f => mkN n f ||| sel (f n) (2 ^ n)
theorem mkN_bit (n : Nat) (f : Nat → Bool) (i : Nat) : (mkN n f).testBit i = (decide (i < n) && f i) := by
  induction n with
  | zero => simp [mkN]
  | succ n ih =>
    rw [mkN, Nat.testBit_or, ih]
    by_cases h : i = n
    · subst h
      cases f i <;> simp [sel]
    · have h2 : (sel (f n) (2 ^ n)).testBit i = false := by
        cases f n
        · simp [sel]
        · simp only [sel, cond_true]; exact Nat.testBit_two_pow_of_ne (by omega)
      rw [h2, Bool.or_false]
      by_cases hl : i < n
      · have : i < n + 1 := by omega
        simp [hl, this]
      · have : ¬ i < n + 1 := by omega
        simp [hl, this]
theorem mkN_lt (n : Nat) (f : Nat → Bool) : mkN n f < 2 ^ n := by
  apply Nat.lt_pow_two_of_testBit
  intro i hi
  rw [mkN_bit]
  have : ¬ i < n := by omega
  simp [this]
theorem mkN_ext {n : Nat} {f g : Nat → Bool} (h : ∀ i, i < n → f i = g i) : mkN n f = mkN n g := by
  apply Nat.eq_of_testBit_eq
  intro i
  rw [mkN_bit, mkN_bit]
  by_cases hi : i < n
  · rw [h i hi]
  · simp [hi]
theorem bits_ext {n x y : Nat} (hx : x < 2 ^ n) (hy : y < 2 ^ n) (h : ∀ i, i < n → x.testBit i = y.testBit i) : x = y := by
  apply Nat.eq_of_testBit_eq
  intro i
  by_cases hi : i < n
  · exact h i hi
  · rw [Nat.testBit_lt_two_pow (Nat.lt_of_lt_of_le hx (Nat.pow_le_pow_right (by omega) (by omega))), Nat.testBit_lt_two_pow (Nat.lt_of_lt_of_le hy (Nat.pow_le_pow_right (by omega) (by omega)))]
theorem mkN_self {n x : Nat} (h : x < 2 ^ n) : mkN n x.testBit = x := bits_ext (mkN_lt _ _) h fun i hi => by rw [mkN_bit]; simp [hi]
theorem mkN_at {n : Nat} {f : Nat → Bool} {i : Nat} (h : i < n) : (mkN n f).testBit i = f i := by rw [mkN_bit]; simp [h]
theorem mkN_out {n : Nat} {f : Nat → Bool} {i : Nat} (h : n ≤ i) : (mkN n f).testBit i = false := by
  rw [mkN_bit]
  have : ¬ i < n := by omega
  simp [this]
theorem mkN_xor (n : Nat) (f g : Nat → Bool) : mkN n (fun i => f i ^^ g i) = mkN n f ^^^ mkN n g :=
  bits_ext (mkN_lt _ _) (Nat.xor_lt_two_pow (mkN_lt _ _) (mkN_lt _ _)) fun i hi => by rw [Nat.testBit_xor, mkN_at hi, mkN_at hi, mkN_at hi]

abbrev B64 : Nat := 18446744073709551616
theorem b64 : B64 = 2 ^ 64 := by decide
/-- Bit i of a text. -/
def co (L : List UInt8) (i : Nat) : Bool := (ub L (i / 8)).toNat.testBit (7 - i % 8)
/-- A text's number. -/
def bn (L : List UInt8) : Nat := mkN 128 (co L)
theorem bn_lt (L : List UInt8) : bn L < B128 := mkN_lt 128 _
/-- A block's two words. -/
def w0 (N : Nat) : Nat := mkN 64 fun t => N.testBit (63 - t)
def w1 (N : Nat) : Nat := mkN 64 fun t => N.testBit (127 - t)
theorem w0_lt (N : Nat) : w0 N < B64 := mkN_lt 64 _
theorem w1_lt (N : Nat) : w1 N < B64 := mkN_lt 64 _
theorem w0_xor (a b : Nat) : w0 (a ^^^ b) = w0 a ^^^ w0 b := by
  unfold w0
  rw [← mkN_xor]
  exact mkN_ext fun i _ => Nat.testBit_xor ..
theorem w1_xor (a b : Nat) : w1 (a ^^^ b) = w1 a ^^^ w1 b := by
  unfold w1
  rw [← mkN_xor]
  exact mkN_ext fun i _ => Nat.testBit_xor ..
/-- Byte i of a block. -/
def by8 (N i : Nat) : UInt8 := UInt8.ofNat (mkN 8 fun t => N.testBit (8 * i + 7 - t))
theorem by8_nat (N i : Nat) : (by8 N i).toNat = mkN 8 fun t => N.testBit (8 * i + 7 - t) := by
  unfold by8
  rw [UInt8.toNat_ofNat']
  exact Nat.mod_eq_of_lt (mkN_lt 8 _)
/-- A block's bytes. -/
def nb (N : Nat) : List UInt8 := tab 16 (by8 N)
theorem nb_len (N : Nat) : (nb N).length = 16 := tab_len _ _
theorem co_nb (N : Nat) {i : Nat} (h : i < 128) : co (nb N) i = N.testBit i := by
  unfold co nb
  rw [ub_tab _ (by omega), by8_nat, mkN_at (by omega)]
  congr 1
  omega
theorem bn_nb {N : Nat} (h : N < B128) : bn (nb N) = N := bits_ext (mkN_lt 128 _) h fun i hi => by rw [bn, mkN_at hi, co_nb N hi]
theorem bn_bit (L : List UInt8) {i : Nat} (h : i < 128) : (bn L).testBit i = co L i := mkN_at h
theorem u8_bits {a b : UInt8} (h : ∀ t, t < 8 → a.toNat.testBit t = b.toNat.testBit t) : a = b := UInt8.toNat_inj.1 (bits_ext (n := 8) a.toNat_lt b.toNat_lt h)
theorem nb_bn {L : List UInt8} (h : L.length = 16) : nb (bn L) = L := by
  refine list_ext (nb_len _) h fun i hi => ?_
  unfold nb
  rw [ub_tab _ hi]
  refine u8_bits fun t ht => ?_
  rw [by8_nat, mkN_at ht, bn_bit L (by omega)]
  unfold co
  rw [show (8 * i + 7 - t) / 8 = i by omega, show 7 - (8 * i + 7 - t) % 8 = t by omega]
theorem nb_inj {a b : Nat} (ha : a < B128) (hb : b < B128) (h : nb a = nb b) : a = b := by rw [← bn_nb ha, h, bn_nb hb]
theorem bn_inj {a b : List UInt8} (ha : a.length = 16) (hb : b.length = 16) (h : bn a = bn b) : a = b := by rw [← nb_bn ha, h, nb_bn hb]
/-- Two texts' sum. -/
def xorL (a b : List UInt8) : List UInt8 := tab a.length fun i => ub a i ^^^ ub b i
theorem bn_xorL {a b : List UInt8} (ha : a.length = 16) : bn (xorL a b) = bn a ^^^ bn b := by
  unfold bn
  rw [← mkN_xor]
  refine mkN_ext fun i hi => ?_
  unfold co xorL
  rw [ub_tab _ (by omega), UInt8.toNat_xor, Nat.testBit_xor]
theorem xorL_len (a b : List UInt8) : (xorL a b).length = a.length := tab_len _ _
theorem gub_take {L : List UInt8} {k i : Nat} : ub (L.take k) i = if i < k then ub L i else 0 := by
  unfold ub
  by_cases h : i < k
  · rw [if_pos h]; simp [List.getD, h]
  · rw [if_neg h, List.getD, List.getElem?_eq_none (by rw [List.length_take]; omega)]
    rfl
theorem shl_bit (b s t : Nat) : (b * 2 ^ s).testBit t = (decide (s ≤ t) && b.testBit (t - s)) := by rw [Nat.testBit_mul_two_pow]
theorem u8_bit_out (b : UInt8) {t : Nat} (h : 8 ≤ t) : b.toNat.testBit t = false := Nat.testBit_lt_two_pow (Nat.lt_of_lt_of_le b.toNat_lt (Nat.pow_le_pow_right (n := 2) (i := 8) (by omega) h))
/-- A byte's place in its word. -/
theorem byte_lt (b : UInt8) {s : Nat} (hs : s ≤ 56) : b.toNat * 2 ^ s < B64 := by
  have h1 := b.toNat_lt
  have h2 : 2 ^ s ≤ 2 ^ 56 := Nat.pow_le_pow_right (by omega) hs
  calc b.toNat * 2 ^ s ≤ 255 * 2 ^ 56 := Nat.mul_le_mul (by omega) h2
    _ < B64 := by decide
theorem w0_more (L : List UInt8) {k : Nat} (h : k < 8) : w0 (bn (L.take (k + 1))) = w0 (bn (L.take k)) ||| (ub L k).toNat * 2 ^ (56 - k % 8 * 8) := by
  refine bits_ext (n := 64) (mkN_lt _ _) (Nat.or_lt_two_pow (mkN_lt _ _) (byte_lt _ (by omega))) fun t ht => ?_
  rw [Nat.testBit_or, shl_bit]
  unfold w0
  rw [mkN_at ht, mkN_at ht, bn_bit _ (by omega), bn_bit _ (by omega)]
  unfold co
  rw [gub_take, gub_take]
  by_cases h1 : (63 - t) / 8 < k
  · have h2 : 8 ≤ t - (56 - k % 8 * 8) := by omega
    rw [if_pos h1, if_pos (by omega), u8_bit_out _ h2]
    simp
  · rw [if_neg h1]
    by_cases h2 : (63 - t) / 8 = k
    · subst h2
      have h3 : 56 - (63 - t) / 8 % 8 * 8 ≤ t := by omega
      rw [if_pos (by omega), show 7 - (63 - t) % 8 = t - (56 - (63 - t) / 8 % 8 * 8) by omega]
      simp [h3]
    · have h3 : ¬ (56 - k % 8 * 8 ≤ t) := by omega
      rw [if_neg (by omega)]
      simp [h3]
theorem w1_more (L : List UInt8) {k : Nat} (h : 8 ≤ k) (hk : k < 16) : w1 (bn (L.take (k + 1))) = w1 (bn (L.take k)) ||| (ub L k).toNat * 2 ^ (56 - k % 8 * 8) := by
  refine bits_ext (n := 64) (mkN_lt _ _) (Nat.or_lt_two_pow (mkN_lt _ _) (byte_lt _ (by omega))) fun t ht => ?_
  rw [Nat.testBit_or, shl_bit]
  unfold w1
  rw [mkN_at ht, mkN_at ht, bn_bit _ (by omega), bn_bit _ (by omega)]
  unfold co
  rw [gub_take, gub_take]
  by_cases h1 : (127 - t) / 8 < k
  · have h2 : 8 ≤ t - (56 - k % 8 * 8) := by omega
    rw [if_pos h1, if_pos (by omega), u8_bit_out _ h2]
    simp
  · rw [if_neg h1]
    by_cases h2 : (127 - t) / 8 = k
    · subst h2
      have h3 : 56 - (127 - t) / 8 % 8 * 8 ≤ t := by omega
      rw [if_pos (by omega), show 7 - (127 - t) % 8 = t - (56 - (127 - t) / 8 % 8 * 8) by omega]
      simp [h3]
    · have h3 : ¬ (56 - k % 8 * 8 ≤ t) := by omega
      rw [if_neg (by omega)]
      simp [h3]
theorem w0_same (L : List UInt8) {k : Nat} (h : 8 ≤ k) : w0 (bn (L.take (k + 1))) = w0 (bn (L.take k)) := by
  refine bits_ext (n := 64) (mkN_lt _ _) (mkN_lt _ _) fun t ht => ?_
  unfold w0
  rw [mkN_at ht, mkN_at ht, bn_bit _ (by omega), bn_bit _ (by omega)]
  unfold co
  rw [gub_take, gub_take, if_pos (by omega), if_pos (by omega)]
theorem w1_same (L : List UInt8) {k : Nat} (h : k < 8) : w1 (bn (L.take (k + 1))) = w1 (bn (L.take k)) := by
  refine bits_ext (n := 64) (mkN_lt _ _) (mkN_lt _ _) fun t ht => ?_
  unfold w1
  rw [mkN_at ht, mkN_at ht, bn_bit _ (by omega), bn_bit _ (by omega)]
  unfold co
  rw [gub_take, gub_take, if_neg (by omega), if_neg (by omega)]
/-- One of both words. -/
def wi (N j : Nat) : Nat := if j = 0 then w0 N else w1 N
theorem wi_lt (N j : Nat) : wi N j < B64 := by unfold wi; split; exact w0_lt N; exact w1_lt N
theorem wi_byte (N : Nat) {i : Nat} (h : i < 16) : wi N (i / 8) / 2 ^ (56 - i % 8 * 8) % 256 = (by8 N i).toNat := by
  rw [by8_nat]
  refine bits_ext (n := 8) (Nat.mod_lt _ (by decide)) (mkN_lt _ _) fun t ht => ?_
  rw [show (256 : Nat) = 2 ^ 8 from rfl, Nat.testBit_mod_two_pow, Nat.testBit_div_two_pow, mkN_at ht]
  unfold wi w0 w1
  by_cases h8 : i / 8 = 0
  · rw [if_pos h8, mkN_at (by omega), show 63 - (t + (56 - i % 8 * 8)) = 8 * i + 7 - t by omega]
    simp [ht]
  · rw [if_neg h8, mkN_at (by omega), show 127 - (t + (56 - i % 8 * 8)) = 8 * i + 7 - t by omega]
    simp [ht]
/-- The block of two words. -/
def ofW (a b : Nat) : Nat := mkN 128 fun i => if i < 64 then a.testBit (63 - i) else b.testBit (127 - i)
theorem ofW_lt (a b : Nat) : ofW a b < B128 := mkN_lt 128 _
theorem w0_of {a : Nat} (b : Nat) (h : a < B64) : w0 (ofW a b) = a := bits_ext (n := 64) (mkN_lt _ _) h fun t ht => by
  unfold w0 ofW
  rw [mkN_at ht, mkN_at (by omega), if_pos (by omega), show 63 - (63 - t) = t by omega]
theorem w1_of (a : Nat) {b : Nat} (h : b < B64) : w1 (ofW a b) = b := bits_ext (n := 64) (mkN_lt _ _) h fun t ht => by
  unfold w1 ofW
  rw [mkN_at ht, mkN_at (by omega), if_neg (by omega), show 127 - (127 - t) = t by omega]
theorem ofW_w {N : Nat} (h : N < B128) : ofW (w0 N) (w1 N) = N := bits_ext (n := 128) (mkN_lt _ _) h fun i hi => by
  unfold ofW w0 w1
  rw [mkN_at hi]
  by_cases h1 : i < 64
  · rw [if_pos h1, mkN_at (by omega), show 63 - (63 - i) = i by omega]
  · rw [if_neg h1, mkN_at (by omega), show 127 - (127 - i) = i by omega]
/-- A word's mask. -/
def msk (b : Bool) : Nat := sel b 18446744073709551615
theorem and_msk {x : Nat} (b : Bool) (h : x < B64) : x &&& msk b = sel b x := by
  cases b
  · simp [msk, sel]
  · show x &&& (2 ^ 64 - 1) = x
    rw [Nat.and_two_pow_sub_one_eq_mod, Nat.mod_eq_of_lt h]
theorem msk_and {x : Nat} (b : Bool) (h : x < B64) : msk b &&& x = sel b x := by rw [Nat.and_comm, and_msk b h]
theorem w0_sel (b : Bool) (x : Nat) : w0 (sel b x) = sel b (w0 x) := by
  cases b
  · show w0 0 = 0
    decide +kernel
  · rfl
theorem w1_sel (b : Bool) (x : Nat) : w1 (sel b x) = sel b (w1 x) := by
  cases b
  · show w1 0 = 0
    decide +kernel
  · rfl
theorem gd_bit (a : Nat) {i : Nat} (h : i < 128) : (gd a).testBit i = ((decide (1 ≤ i) && a.testBit (i - 1)) ^^ (a.testBit 127 && (135 : Nat).testBit i)) := by
  unfold gd
  rw [Nat.testBit_xor]
  congr 1
  · rw [show a % 170141183460469231731687303715884105728 * 2 = a % 2 ^ 127 * 2 ^ 1 from rfl, shl_bit, Nat.testBit_mod_two_pow]
    have : i - 1 < 127 := by omega
    simp [this]
  · cases a.testBit 127 <;> simp [sel]
theorem raised0 (A : Nat) : w0 A / 2 ^^^ sel ((w1 A).testBit 0) 16212958658533785600 = w0 (gd A) := by
  have hA : (w1 A).testBit 0 = A.testBit 127 := mkN_at (by omega)
  rw [hA]
  have hd : ∀ t, t < 64 → (16212958658533785600 : Nat).testBit t = (135 : Nat).testBit (63 - t) := by decide +kernel
  refine bits_ext (n := 64) (Nat.xor_lt_two_pow (Nat.lt_of_le_of_lt (Nat.div_le_self _ _) (w0_lt A)) (sel_lt (by decide) (by decide))) (mkN_lt _ _) fun t ht => ?_
  rw [Nat.testBit_xor]
  unfold w0
  rw [mkN_at ht, gd_bit A (by omega), show ∀ x : Nat, x / 2 = x / 2 ^ 1 from fun _ => rfl, Nat.testBit_div_two_pow, mkN_bit]
  congr 1
  · by_cases h1 : t + 1 < 64
    · have : 1 ≤ 63 - t := by omega
      rw [show 63 - (t + 1) = 63 - t - 1 by omega]
      simp [h1, this]
    · have : ¬ 1 ≤ 63 - t := by omega
      simp [h1, this]
  · rw [← hd t ht]
    cases A.testBit 127 <;> simp [sel]
theorem raised1 (A : Nat) : w0 A * 2 ^ 63 % 18446744073709551616 ||| w1 A / 2 = w1 (gd A) := by
  have hd : ∀ t, t < 64 → (135 : Nat).testBit (127 - t) = false := by decide +kernel
  refine bits_ext (n := 64) (Nat.or_lt_two_pow (Nat.mod_lt _ (by decide)) (Nat.lt_of_le_of_lt (Nat.div_le_self _ _) (w1_lt A))) (mkN_lt _ _) fun t ht => ?_
  rw [Nat.testBit_or, show (18446744073709551616 : Nat) = 2 ^ 64 from rfl, Nat.testBit_mod_two_pow, shl_bit]
  unfold w0 w1
  rw [mkN_at ht, gd_bit A (by omega), hd t ht, show ∀ x : Nat, x / 2 = x / 2 ^ 1 from fun _ => rfl, Nat.testBit_div_two_pow, mkN_bit, mkN_bit]
  have h127 : 1 ≤ 127 - t := by omega
  by_cases h1 : t = 63
  · subst h1
    simp
  · have h2 : ¬ 63 ≤ t := by omega
    have h3 : t + 1 < 64 := by omega
    rw [show 127 - (t + 1) = 127 - t - 1 by omega]
    simp [h2, h3, h127]
/-- The product by the first so many bits. -/
def pA (A B : Nat) : Nat → Nat
  | 0 => 0
  | k + 1 => pA A B k ^^^ sel (B.testBit k) (gX k A)
theorem lin_pA (A k : Nat) : Lin fun B => pA A B k := by
  induction k with
  | zero => exact Lin.none
  | succ k ih => exact Lin.add (f := fun B => pA A B k) ih (Lin.bit k (gX k A))
theorem pA_two (A i : Nat) : ∀ k, pA A (2 ^ i) k = sel (decide (i < k)) (gX i A) := by
  intro k
  induction k with
  | zero => rfl
  | succ k ih =>
    rw [pA, ih, Nat.testBit_two_pow]
    by_cases h : i = k
    · subst h
      have : i < i + 1 := by omega
      simp [sel, this]
    · by_cases h2 : i < k
      · have : i < k + 1 := by omega
        simp [sel, h, h2, this]
      · have : ¬ i < k + 1 := by omega
        simp [sel, h, h2, this]
theorem pA_all {A B : Nat} (hB : B < B128) : pA A B 128 = gm A B :=
  block_ext (f := fun B => pA A B 128) (g := fun B => gm A B) (lin_pA A 128) (gm_right A) (fun i hi => by
    show pA A (2 ^ i) 128 = gm A (2 ^ i)
    rw [pA_two, gm_pow A hi]
    simp [sel, hi]) B hB
/-- A word's bits that are left, after so many rounds. -/
def shW (x k : Nat) : Nat := x * 2 ^ k % 18446744073709551616
theorem shW_zero {x : Nat} (h : x < B64) : shW x 0 = x := by unfold shW; rw [Nat.pow_zero, Nat.mul_one]; exact Nat.mod_eq_of_lt h
theorem shW_more (x k : Nat) : shW x k * 2 % 18446744073709551616 = shW x (k + 1) := by
  unfold shW
  rw [Nat.mod_mul_mod, Nat.pow_succ, Nat.mul_assoc]
theorem shW_lt (x k : Nat) : shW x k < B64 := Nat.mod_lt _ (by decide)
theorem shW_top (N : Nat) {j k : Nat} (hj : j < 2) (hk : k < 64) : shW (wi N j) k / 9223372036854775808 = (if N.testBit (64 * j + k) then 1 else 0) := by
  have h1 : shW (wi N j) k / 9223372036854775808 < 2 ^ 1 := by
    have : shW (wi N j) k < 18446744073709551616 := shW_lt (wi N j) k
    omega
  have h2 : (shW (wi N j) k / 9223372036854775808).testBit 0 = N.testBit (64 * j + k) := by
    rw [show (9223372036854775808 : Nat) = 2 ^ 63 from rfl, Nat.testBit_div_two_pow]
    unfold shW
    rw [show (18446744073709551616 : Nat) = 2 ^ 64 from rfl, Nat.testBit_mod_two_pow, shl_bit]
    have h3 : k ≤ 0 + 63 := by omega
    unfold wi w0 w1
    by_cases hj0 : j = 0
    · subst hj0
      rw [if_pos rfl, mkN_at (by omega), show 63 - (0 + 63 - k) = 64 * 0 + k by omega]
      simp [h3]
    · obtain rfl : j = 1 := by omega
      rw [if_neg (by omega), mkN_at (by omega), show 127 - (0 + 63 - k) = 64 * 1 + k by omega]
      simp [h3]
  generalize shW (wi N j) k / 9223372036854775808 = y at h1 h2
  rw [← h2]
  have : y = 0 ∨ y = 1 := by omega
  rcases this with rfl | rfl <;> rfl
end Go.Proofs.Ytcecjoodlmpgnaa
/- The contracts of isBlock, shiftOf, allOf, raised and plus. -/
namespace Go.Proofs.Ytcecjoodlmpgnaa
open Go.RowKit

/-- A word, and a polynomial, in memory. -/
abbrev qv (n : Nat) : Value := .int .u64 (n : Int)
abbrev Pol (N : Nat) : Array Value := #[qv (w0 N), qv (w1 N)]

set_option maxRecDepth 100000 in
set_option maxHeartbeats 1000000 in
theorem isBlock_any (s : List UInt8) (w : World) :
    Calls Try.prog 50 #[.string ⟨s.toArray⟩] w fun e w' => e = .returned (.bool (decide (s.length = 16))) ∧ w = w' := by
  have hz := size_of s
  by_cases h : s.length = 16
  · rw [h] at hz
    go_enter Try.func50, Try.ntmps50
    go_wp2
    go_ret
    simp [h]
  · have h1 : ((s.length : Int) == 16) = false := by simp; omega
    have h2 : (s.length == 16) = false := by simp; omega
    go_enter Try.func50, Try.ntmps50
    go_wp2
    go_ret
    simp [h]

set_option maxRecDepth 100000 in
set_option maxHeartbeats 1000000 in
theorem shiftOf_any (i : Nat) (w : World) (hi : i < 16) :
    Calls Try.prog 70 #[.int .i64 (i : Int)] w fun e w' => e = .returned (.int .i64 ((56 - i % 8 * 8 : Nat) : Int)) ∧ w = w' := by
  go_enter Try.func70, Try.ntmps70
  go_wp2
  go_ret
  refine ⟨?_, rfl⟩
  go_num

set_option maxRecDepth 100000 in
set_option maxHeartbeats 1000000 in
theorem allOf_none (w : World) : Calls Try.prog 74 #[.int .u64 0] w fun e w' => e = .returned (.int .u64 0) ∧ w = w' := by
  go_enter Try.func74, Try.ntmps74
  go_wp2
  go_ret
  exact ⟨rfl, rfl⟩
set_option maxRecDepth 100000 in
set_option maxHeartbeats 1000000 in
theorem allOf_one (w : World) : Calls Try.prog 74 #[.int .u64 1] w fun e w' => e = .returned (.int .u64 18446744073709551615) ∧ w = w' := by
  go_enter Try.func74, Try.ntmps74
  go_wp2
  go_ret
  exact ⟨rfl, rfl⟩
/-- One bit's word. -/
def onb (b : Bool) : Nat := if b then 1 else 0
theorem allOf_any (b : Bool) (w : World) : Calls Try.prog 74 #[qv (onb b)] w fun e w' => e = .returned (qv (msk b)) ∧ w = w' := by
  cases b
  · exact allOf_none w
  · exact allOf_one w

set_option maxRecDepth 100000 in
set_option maxHeartbeats 1000000 in
theorem raised_any (A : Nat) (w : World) :
    Calls Try.prog 75 #[qv (w0 A), qv (w1 A)] w fun e w' => e = .returned (.tuple #[qv (w0 (gd A)), qv (w1 (gd A))]) ∧ w = w' := by
  have a0 := w0_lt A
  have a1 := w1_lt A
  have h1 : bits .and .u64 ((w1 A : Nat) : Int) 1 = ((onb ((w1 A).testBit 0) : Nat) : Int) := by
    have := u64_and_nat (w1 A) 1 a1 (by decide)
    rw [Nat.and_one_is_mod] at this
    rw [show ((1 : Nat) : Int) = 1 from rfl] at this
    rw [this, Nat.testBit_zero]
    have h2 := Nat.mod_two_eq_zero_or_one (w1 A)
    rcases h2 with h2 | h2 <;> rw [h2] <;> rfl
  have r0 := raised0 A
  have r1 := raised1 A
  obtain ⟨b, hb⟩ : ∃ b, (w1 A).testBit 0 = b := ⟨_, rfl⟩
  rw [hb] at h1 r0
  have h2 : bits .and .u64 (16212958658533785600 : Int) ((msk b : Nat) : Int) = ((sel b 16212958658533785600 : Nat) : Int) := by
    have := u64_and_nat 16212958658533785600 (msk b) (by decide) (sel_lt (by decide) (by decide))
    rw [and_msk b (by decide)] at this
    exact this
  have h3 : bits .xor .u64 (((w0 A : Nat) : Int) / 2) ((sel b 16212958658533785600 : Nat) : Int) = ((w0 (gd A) : Nat) : Int) := by
    have := u64_xor_nat (w0 A / 2) (sel b 16212958658533785600) (by have : w0 A < 18446744073709551616 := a0; omega) (sel_lt (by decide) (by decide))
    rw [r0] at this
    rw [← this]
    rfl
  have h4 : bits .or .u64 (IntKind.u64.wrap (((w0 A : Nat) : Int) * 9223372036854775808)) (((w1 A : Nat) : Int) / 2) = ((w1 (gd A) : Nat) : Int) := by
    rw [IntKind.wrap_u64]
    have := u64_or_nat (w0 A * 2 ^ 63 % 18446744073709551616) (w1 A / 2) (Nat.mod_lt _ (by decide)) (by have : w1 A < 18446744073709551616 := a1; omega)
    rw [r1] at this
    rw [← this]
    rfl
  have HA := Lib.hid (fun W => allOf_any b W)
  clear a0 a1 r0 r1 hb
  generalize w0 A = x at h3 h4 ⊢
  generalize w1 A = y at h1 h4 ⊢
  generalize w0 (gd A) = x' at h3 ⊢
  generalize w1 (gd A) = y' at h4 ⊢
  generalize onb b = c at h1 HA
  generalize sel b 16212958658533785600 = d at h2 h3
  generalize msk b = m at h2 HA
  go_enter Try.func75, Try.ntmps75
  go_wp2_with fail
  refine (HA.out _).mono ?_
  rintro e w1 ⟨rfl, rfl⟩
  go_wp2_with fail
  go_ret2
  exact ⟨rfl, rfl⟩

theorem plen (N : Nat) : (Try.prog.info? 96).map (·.size) = some (Pol N).size := by kernel_rfl
set_option maxRecDepth 100000 in
set_option maxHeartbeats 1000000 in
theorem plus_any (A B : Nat) (w : World) :
    Calls Try.prog 53 #[.agg (Pol A), .agg (Pol B)] w fun e w' => e = .returned (.agg (Pol (A ^^^ B))) ∧ Below w.heap.size w w' := by
  have h1 := u64_xor_nat (w0 A) (w0 B) (w0_lt A) (w0_lt B)
  have h2 := u64_xor_nat (w1 A) (w1 B) (w1_lt A) (w1_lt B)
  rw [← w0_xor] at h1
  rw [← w1_xor] at h2
  have HL := Lib.hid (plen (A ^^^ B))
  unfold Pol at HL ⊢
  generalize w0 (A ^^^ B) = x at h1 HL ⊢
  generalize w1 (A ^^^ B) = y at h2 HL ⊢
  generalize w0 A = a at h1 ⊢
  generalize w1 A = b at h2 ⊢
  generalize w0 B = c at h1 ⊢
  generalize w1 B = d at h2 ⊢
  go_enter Try.func53, Try.ntmps53
  go_wp2
  refine bodyPost_ret (v := .agg #[qv x, qv y]) (results_cell_row rfl _ _ _ _ _ _ _ rfl (Blk.newAt (by simp) _ _) Try.underlying96 rfl HL.out) rfl ?_
  exact ⟨rfl, ba (ba (ba (Below.refl _ _) _) _) _⟩
end Go.Proofs.Ytcecjoodlmpgnaa
/- The reference's long product in plain numbers: it is the product. Nothing of any function. -/
namespace Go.Proofs.Ytcecjoodlmpgnaa

/-- Odd or not: how many of the first so many are true. -/
def par : Nat → (Nat → Bool) → Bool
  | 0, _ => false
  | n + 1, f => par n f ^^ f n
theorem par_xor (n : Nat) (f g : Nat → Bool) : par n (fun i => f i ^^ g i) = (par n f ^^ par n g) := by
  induction n with
  | zero => rfl
  | succ n ih =>
    rw [par, ih, par, par]
    cases par n f <;> cases par n g <;> cases f n <;> cases g n <;> rfl
theorem par_one (n k : Nat) (g : Nat → Bool) : par n (fun i => decide (i = k) && g i) = (decide (k < n) && g k) := by
  induction n with
  | zero => simp [par]
  | succ n ih =>
    rw [par, ih]
    by_cases h : n = k
    · subst h
      simp
    · have h2 : (k < n + 1) ↔ (k < n) := by omega
      simp [h, h2]
theorem par_ext {n : Nat} {f g : Nat → Bool} (h : ∀ i, i < n → f i = g i) : par n f = par n g := by
  induction n with
  | zero => rfl
  | succ n ih => rw [par, par, ih (fun i hi => h i (by omega)), h n (by omega)]
/-- One of the long product's bits: so many of its rounds. -/
def lonT (A B p i : Nat) : Bool := decide (i ≤ p) && decide (p < i + 128) && A.testBit i && B.testBit (p - i)
def lon (A B p : Nat) : Bool := par 128 (lonT A B p)
theorem lon_left (A A' B p : Nat) : lon (A ^^^ A') B p = (lon A B p ^^ lon A' B p) := by
  unfold lon
  rw [← par_xor]
  refine par_ext fun i _ => ?_
  unfold lonT
  rw [Nat.testBit_xor]
  cases decide (i ≤ p) <;> cases decide (p < i + 128) <;> cases A.testBit i <;> cases A'.testBit i <;> cases B.testBit (p - i) <;> rfl
theorem lon_right (A B B' p : Nat) : lon A (B ^^^ B') p = (lon A B p ^^ lon A B' p) := by
  unfold lon
  rw [← par_xor]
  refine par_ext fun i _ => ?_
  unfold lonT
  rw [Nat.testBit_xor]
  cases decide (i ≤ p) <;> cases decide (p < i + 128) <;> cases A.testBit i <;> cases B.testBit (p - i) <;> cases B'.testBit (p - i) <;> rfl
theorem lon_two {i j : Nat} (hi : i < 128) (hj : j < 128) (p : Nat) : lon (2 ^ i) (2 ^ j) p = decide (p = i + j) := by
  unfold lon
  have : ∀ k, k < 128 → lonT (2 ^ i) (2 ^ j) p k = (decide (k = i) && decide (p = i + j)) := by
    intro k _
    unfold lonT
    rw [Nat.testBit_two_pow, Nat.testBit_two_pow]
    by_cases h : k = i
    · subst h
      by_cases h2 : p = k + j
      · subst h2
        have h3 : k ≤ k + j := by omega
        have h4 : k + j < k + 128 := by omega
        have h5 : j = k + j - k := by omega
        simp [h3, h4, ← h5]
      · by_cases h3 : k ≤ p
        · have h5 : ¬ j = p - k := by omega
          simp [h2, h5]
        · simp [h2, h3]
    · have h3 : ¬ i = k := fun e => h e.symm
      simp [h, h3]
  rw [par_ext this, par_one]
  simp [hi]
/-- What a row of bits tells: the bit p is that of x^p. -/
def gval : Nat → (Nat → Bool) → Nat
  | 0, _ => 0
  | n + 1, f => gval n f ^^^ sel (f n) (gX n 1)
theorem val_xor (n : Nat) (f g : Nat → Bool) : gval n (fun i => f i ^^ g i) = gval n f ^^^ gval n g := by
  induction n with
  | zero => exact (Nat.xor_self 0).symm
  | succ n ih => rw [gval, ih, gval, gval, sel_bits, xor4]
theorem val_one (n k : Nat) : gval n (fun i => decide (i = k)) = sel (decide (k < n)) (gX k 1) := by
  induction n with
  | zero => simp [gval, sel]
  | succ n ih =>
    rw [gval, ih]
    by_cases h : n = k
    · subst h
      simp [sel]
    · have h2 : (k < n + 1) ↔ (k < n) := by omega
      simp [h, h2, sel]
theorem val_ext {n : Nat} {f g : Nat → Bool} (h : ∀ i, i < n → f i = g i) : gval n f = gval n g := by
  induction n with
  | zero => rfl
  | succ n ih => rw [gval, gval, ih (fun i hi => h i (by omega)), h n (by omega)]
theorem val_lon_two {i j : Nat} (hi : i < 128) (hj : j < 128) : gval 255 (lon (2 ^ i) (2 ^ j)) = gm (2 ^ i) (2 ^ j) := by
  rw [val_ext (g := fun p => decide (p = i + j)) (fun p _ => lon_two hi hj p), val_one, gm_pow _ hj, ← gX_one hi, ← gX_add, Nat.add_comm j i]
  have : i + j < 255 := by omega
  simp [this, sel]
/-- The long product tells the product. -/
theorem val_lon {A B : Nat} (hA : A < B128) (hB : B < B128) : gval 255 (lon A B) = gm A B :=
  block_ext (f := fun A => gval 255 (lon A B)) (g := fun A => gm A B) (fun a b => by
    show gval 255 (lon (a ^^^ b) B) = gval 255 (lon a B) ^^^ gval 255 (lon b B)
    rw [← val_xor]
    exact val_ext fun p _ => lon_left a b B p) (gm_left B) (fun i hi =>
    block_ext (f := fun B => gval 255 (lon (2 ^ i) B)) (g := fun B => gm (2 ^ i) B) (fun a b => by
      show gval 255 (lon (2 ^ i) (a ^^^ b)) = gval 255 (lon (2 ^ i) a) ^^^ gval 255 (lon (2 ^ i) b)
      rw [← val_xor]
      exact val_ext fun p _ => lon_right _ a b p) (gm_right (2 ^ i)) (fun j hj => val_lon_two hi hj) B hB) A hA
/-- One bit turned. -/
def flipF (f : Nat → Bool) (i : Nat) : Nat → Bool := fun q => f q ^^ decide (q = i)
theorem val_flip {n i : Nat} (f : Nat → Bool) (h : i < n) : gval n (flipF f i) = gval n f ^^^ gX i 1 := by
  unfold flipF
  rw [val_xor, val_one]
  simp [h, sel]
def stepF (f : Nat → Bool) (p : Nat) : Nat → Bool := if f p then flipF (flipF (flipF (flipF f (p - 128)) (p - 127)) (p - 126)) (p - 121) else f
theorem gX_over : gX 128 1 = gX 0 1 ^^^ gX 1 1 ^^^ gX 2 1 ^^^ gX 7 1 := by
  rw [show gX 128 1 = gd (gX 127 1) from rfl, gX_one (i := 127) (by omega), gX_one (i := 0) (by omega), gX_one (i := 1) (by omega), gX_one (i := 2) (by omega), gX_one (i := 7) (by omega)]
  decide +kernel
theorem gX_left {p : Nat} (h : 128 ≤ p) : gX p 1 = gX (p - 128) 1 ^^^ gX (p - 127) 1 ^^^ gX (p - 126) 1 ^^^ gX (p - 121) 1 := by
  obtain ⟨d, rfl⟩ : ∃ d, p = d + 128 := ⟨p - 128, by omega⟩
  rw [gX_add, gX_over, lin_gX d, lin_gX d, lin_gX d, ← gX_add, ← gX_add, ← gX_add, ← gX_add, show d + 128 - 128 = d + 0 by omega, show d + 128 - 127 = d + 1 by omega, show d + 128 - 126 = d + 2 by omega, show d + 128 - 121 = d + 7 by omega]
theorem val_step (f : Nat → Bool) {p : Nat} (h : 128 ≤ p) : gval p (stepF f p) = gval (p + 1) f := by
  unfold stepF
  rw [gval]
  cases hp : f p
  · simp [sel]
  · rw [if_pos rfl, val_flip _ (by omega), val_flip _ (by omega), val_flip _ (by omega), val_flip _ (by omega)]
    show _ = gval p f ^^^ gX p 1
    rw [gX_left h, Nat.xor_assoc, Nat.xor_assoc, Nat.xor_assoc, Nat.xor_assoc, Nat.xor_assoc]
/-- The row after so many of the steps down. -/
def down (f : Nat → Bool) : Nat → Nat → Bool
  | 0 => f
  | j + 1 => stepF (down f j) (254 - j)
theorem val_down (f : Nat → Bool) (j : Nat) (h : j ≤ 127) : gval (255 - j) (down f j) = gval 255 f := by
  induction j with
  | zero => rfl
  | succ j ih =>
    rw [down, show 255 - (j + 1) = 254 - j by omega, val_step _ (by omega), show 254 - j + 1 = 255 - j by omega]
    exact ih (by omega)
theorem val_short (f : Nat → Bool) : ∀ n, n ≤ 128 → gval n f = mkN n f := by
  intro n
  induction n with
  | zero => intro _; rfl
  | succ n ih =>
    intro h
    rw [gval, mkN, ih (by omega), gX_one (by omega)]
    refine bits_ext (n := n + 1) (Nat.xor_lt_two_pow (Nat.lt_of_lt_of_le (mkN_lt n f) (Nat.pow_le_pow_right (by omega) (by omega))) (sel_lt (Nat.two_pow_pos _) (Nat.pow_lt_pow_right (by omega) (by omega)))) (Nat.or_lt_two_pow (Nat.lt_of_lt_of_le (mkN_lt n f) (Nat.pow_le_pow_right (by omega) (by omega))) (sel_lt (Nat.two_pow_pos _) (Nat.pow_lt_pow_right (by omega) (by omega)))) fun i hi => ?_
    rw [Nat.testBit_xor, Nat.testBit_or, mkN_bit]
    cases hf : f n
    · simp [sel]
    · simp only [sel, cond_true]
      rw [Nat.testBit_two_pow]
      by_cases h1 : i < n
      · have : ¬ n = i := by omega
        simp [this]
      · simp [h1]
/-- The reference's product is the product. -/
theorem down_is {A B : Nat} (hA : A < B128) (hB : B < B128) : mkN 128 (down (lon A B) 127) = gm A B := by
  rw [← val_short _ 128 (Nat.le_refl _), ← val_lon hA hB]
  exact val_down _ 127 (Nat.le_refl _)
/-- A byte's reckoning out of its bits, the highest first. -/
def byF (g : Nat → Bool) : Nat → Nat
  | 0 => 0
  | k + 1 => 2 * byF g k + (if g k then 1 else 0)
theorem byF_is (g : Nat → Bool) : ∀ k, byF g k = mkN k (fun t => g (k - 1 - t)) := by
  intro k
  induction k with
  | zero => rfl
  | succ k ih =>
    have hb : byF g k < 2 ^ k := by rw [ih]; exact mkN_lt _ _
    refine bits_ext (n := k + 1) ?_ (mkN_lt _ _) fun i hi => ?_
    · rw [byF, Nat.pow_succ]; split <;> omega
    · rw [mkN_at hi, byF]
      cases i with
      | zero =>
        rw [Nat.testBit_zero]
        cases hg : g k <;> simp [hg] <;> omega
      | succ i =>
        rw [Nat.testBit_succ, show (2 * byF g k + if g k then 1 else 0) / 2 = byF g k by split <;> omega, ih, mkN_at (by omega)]
        congr 1
        omega
theorem byF_lt (g : Nat → Bool) (k : Nat) : byF g k < 2 ^ k := by rw [byF_is]; exact mkN_lt _ _
theorem byF_by8 (f : Nat → Bool) {i : Nat} (h : i < 16) : byF (fun k => f (8 * i + k)) 8 = (by8 (mkN 128 f) i).toNat := by
  rw [byF_is, by8_nat]
  refine mkN_ext fun t ht => ?_
  rw [mkN_at (by omega)]
  show f (8 * i + (8 - 1 - t)) = _
  congr 1
  omega
end Go.Proofs.Ytcecjoodlmpgnaa
