/- Sixteen bytes, two words and a block's number, bit by bit. Nothing of any function. -/
import Derived.Test.YtlfghagidajpeaaAMem0
import Derived.Test.YtlfghagidajpeaaGField
namespace Go.Proofs.Ytlfghagidajpeaa

/-- The number of so many bits. -/
def mkN : Nat → (Nat → Bool) → Nat
  | 0, _ => 0
  | n + 1, f => mkN n f ||| sel (f n) (2 ^ n)
theorem mkN_bit (n : Nat) (f : Nat → Bool) (i : Nat) : (mkN n f).testBit i = (decide (i < n) && f i) := by
  induction n with
  | zero => simp [mkN]
  | succ n ih =>
    rw [mkN, Nat.testBit_or, ih]
    by_cases h : i = n
    · subst h
      cases f i <;> simp [sel]
    · have h2 : (sel (f n) (2 ^ n)).testBit i = false := by
        cases f n
        · simp [sel]
        · simp only [sel, cond_true]; exact Nat.testBit_two_pow_of_ne (by omega)
      rw [h2, Bool.or_false]
      by_cases hl : i < n
      · have : i < n + 1 := by omega
        simp [hl, this]
      · have : ¬ i < n + 1 := by omega
        simp [hl, this]
theorem mkN_lt (n : Nat) (f : Nat → Bool) : mkN n f < 2 ^ n := by
  apply Nat.lt_pow_two_of_testBit
  intro i hi
  rw [mkN_bit]
  have : ¬ i < n := by omega
  simp [this]
theorem mkN_ext {n : Nat} {f g : Nat → Bool} (h : ∀ i, i < n → f i = g i) : mkN n f = mkN n g := by
  apply Nat.eq_of_testBit_eq
  intro i
  rw [mkN_bit, mkN_bit]
  by_cases hi : i < n
  · rw [h i hi]
  · simp [hi]
theorem bits_ext {n x y : Nat} (hx : x < 2 ^ n) (hy : y < 2 ^ n) (h : ∀ i, i < n → x.testBit i = y.testBit i) : x = y := by
  apply Nat.eq_of_testBit_eq
  intro i
  by_cases hi : i < n
  · exact h i hi
  · rw [Nat.testBit_lt_two_pow (Nat.lt_of_lt_of_le hx (Nat.pow_le_pow_right (by omega) (by omega))), Nat.testBit_lt_two_pow (Nat.lt_of_lt_of_le hy (Nat.pow_le_pow_right (by omega) (by omega)))]
theorem mkN_self {n x : Nat} (h : x < 2 ^ n) : mkN n x.testBit = x := bits_ext (mkN_lt _ _) h fun i hi => by rw [mkN_bit]; simp [hi]
theorem mkN_at {n : Nat} {f : Nat → Bool} {i : Nat} (h : i < n) : (mkN n f).testBit i = f i := by rw [mkN_bit]; simp [h]
theorem mkN_out {n : Nat} {f : Nat → Bool} {i : Nat} (h : n ≤ i) : (mkN n f).testBit i = false := by
  rw [mkN_bit]
  have : ¬ i < n := by omega
  simp [this]
theorem mkN_xor (n : Nat) (f g : Nat → Bool) : mkN n (fun i => f i ^^ g i) = mkN n f ^^^ mkN n g :=
  bits_ext (mkN_lt _ _) (Nat.xor_lt_two_pow (mkN_lt _ _) (mkN_lt _ _)) fun i hi => by rw [Nat.testBit_xor, mkN_at hi, mkN_at hi, mkN_at hi]

abbrev B64 : Nat := 18446744073709551616
theorem b64 : B64 = 2 ^ 64 := by decide
/-- Bit i of a text. -/
def co (L : List UInt8) (i : Nat) : Bool := (ub L (i / 8)).toNat.testBit (7 - i % 8)
/-- A text's number. -/
def bn (L : List UInt8) : Nat := mkN 128 (co L)
theorem bn_lt (L : List UInt8) : bn L < B128 := mkN_lt 128 _
/-- A block's two words. -/
def w0 (N : Nat) : Nat := mkN 64 fun t => N.testBit (63 - t)
def w1 (N : Nat) : Nat := mkN 64 fun t => N.testBit (127 - t)
theorem w0_lt (N : Nat) : w0 N < B64 := mkN_lt 64 _
theorem w1_lt (N : Nat) : w1 N < B64 := mkN_lt 64 _
theorem w0_xor (a b : Nat) : w0 (a ^^^ b) = w0 a ^^^ w0 b := by
  unfold w0
  rw [← mkN_xor]
  exact mkN_ext fun i _ => Nat.testBit_xor ..
theorem w1_xor (a b : Nat) : w1 (a ^^^ b) = w1 a ^^^ w1 b := by
  unfold w1
  rw [← mkN_xor]
  exact mkN_ext fun i _ => Nat.testBit_xor ..
/-- Byte i of a block. -/
def by8 (N i : Nat) : UInt8 := UInt8.ofNat (mkN 8 fun t => N.testBit (8 * i + 7 - t))
theorem by8_nat (N i : Nat) : (by8 N i).toNat = mkN 8 fun t => N.testBit (8 * i + 7 - t) := by
  unfold by8
  rw [UInt8.toNat_ofNat']
  exact Nat.mod_eq_of_lt (mkN_lt 8 _)
/-- A block's bytes. -/
def nb (N : Nat) : List UInt8 := tab 16 (by8 N)
theorem nb_len (N : Nat) : (nb N).length = 16 := tab_len _ _
theorem co_nb (N : Nat) {i : Nat} (h : i < 128) : co (nb N) i = N.testBit i := by
  unfold co nb
  rw [ub_tab _ (by omega), by8_nat, mkN_at (by omega)]
  congr 1
  omega
theorem bn_nb {N : Nat} (h : N < B128) : bn (nb N) = N := bits_ext (mkN_lt 128 _) h fun i hi => by rw [bn, mkN_at hi, co_nb N hi]
theorem bn_bit (L : List UInt8) {i : Nat} (h : i < 128) : (bn L).testBit i = co L i := mkN_at h
theorem u8_bits {a b : UInt8} (h : ∀ t, t < 8 → a.toNat.testBit t = b.toNat.testBit t) : a = b := UInt8.toNat_inj.1 (bits_ext (n := 8) a.toNat_lt b.toNat_lt h)
theorem nb_bn {L : List UInt8} (h : L.length = 16) : nb (bn L) = L := by
  refine list_ext (nb_len _) h fun i hi => ?_
  unfold nb
  rw [ub_tab _ hi]
  refine u8_bits fun t ht => ?_
  rw [by8_nat, mkN_at ht, bn_bit L (by omega)]
  unfold co
  rw [show (8 * i + 7 - t) / 8 = i by omega, show 7 - (8 * i + 7 - t) % 8 = t by omega]
theorem nb_inj {a b : Nat} (ha : a < B128) (hb : b < B128) (h : nb a = nb b) : a = b := by rw [← bn_nb ha, h, bn_nb hb]
theorem bn_inj {a b : List UInt8} (ha : a.length = 16) (hb : b.length = 16) (h : bn a = bn b) : a = b := by rw [← nb_bn ha, h, nb_bn hb]
/-- Two texts' sum. -/
def xorL (a b : List UInt8) : List UInt8 := tab a.length fun i => ub a i ^^^ ub b i
theorem bn_xorL {a b : List UInt8} (ha : a.length = 16) : bn (xorL a b) = bn a ^^^ bn b := by
  unfold bn
  rw [← mkN_xor]
  refine mkN_ext fun i hi => ?_
  unfold co xorL
  rw [ub_tab _ (by omega), UInt8.toNat_xor, Nat.testBit_xor]
theorem xorL_len (a b : List UInt8) : (xorL a b).length = a.length := tab_len _ _
theorem ub_take {L : List UInt8} {k i : Nat} : ub (L.take k) i = if i < k then ub L i else 0 := by
  unfold ub
  by_cases h : i < k
  · rw [if_pos h]; simp [List.getD, h]
  · rw [if_neg h, List.getD, List.getElem?_eq_none (by rw [List.length_take]; omega)]
    rfl
theorem shl_bit (b s t : Nat) : (b * 2 ^ s).testBit t = (decide (s ≤ t) && b.testBit (t - s)) := by rw [Nat.testBit_mul_two_pow]
theorem u8_bit_out (b : UInt8) {t : Nat} (h : 8 ≤ t) : b.toNat.testBit t = false := Nat.testBit_lt_two_pow (Nat.lt_of_lt_of_le b.toNat_lt (Nat.pow_le_pow_right (n := 2) (i := 8) (by omega) h))
/-- A byte's place in its word. -/
theorem byte_lt (b : UInt8) {s : Nat} (hs : s ≤ 56) : b.toNat * 2 ^ s < B64 := by
  have h1 := b.toNat_lt
  have h2 : 2 ^ s ≤ 2 ^ 56 := Nat.pow_le_pow_right (by omega) hs
  calc b.toNat * 2 ^ s ≤ 255 * 2 ^ 56 := Nat.mul_le_mul (by omega) h2
    _ < B64 := by decide
theorem w0_more (L : List UInt8) {k : Nat} (h : k < 8) : w0 (bn (L.take (k + 1))) = w0 (bn (L.take k)) ||| (ub L k).toNat * 2 ^ (56 - k % 8 * 8) := by
  refine bits_ext (n := 64) (mkN_lt _ _) (Nat.or_lt_two_pow (mkN_lt _ _) (byte_lt _ (by omega))) fun t ht => ?_
  rw [Nat.testBit_or, shl_bit]
  unfold w0
  rw [mkN_at ht, mkN_at ht, bn_bit _ (by omega), bn_bit _ (by omega)]
  unfold co
  rw [ub_take, ub_take]
  by_cases h1 : (63 - t) / 8 < k
  · have h2 : 8 ≤ t - (56 - k % 8 * 8) := by omega
    rw [if_pos h1, if_pos (by omega), u8_bit_out _ h2]
    simp
  · rw [if_neg h1]
    by_cases h2 : (63 - t) / 8 = k
    · subst h2
      have h3 : 56 - (63 - t) / 8 % 8 * 8 ≤ t := by omega
      rw [if_pos (by omega), show 7 - (63 - t) % 8 = t - (56 - (63 - t) / 8 % 8 * 8) by omega]
      simp [h3]
    · have h3 : ¬ (56 - k % 8 * 8 ≤ t) := by omega
      rw [if_neg (by omega)]
      simp [h3]
theorem w1_more (L : List UInt8) {k : Nat} (h : 8 ≤ k) (hk : k < 16) : w1 (bn (L.take (k + 1))) = w1 (bn (L.take k)) ||| (ub L k).toNat * 2 ^ (56 - k % 8 * 8) := by
  refine bits_ext (n := 64) (mkN_lt _ _) (Nat.or_lt_two_pow (mkN_lt _ _) (byte_lt _ (by omega))) fun t ht => ?_
  rw [Nat.testBit_or, shl_bit]
  unfold w1
  rw [mkN_at ht, mkN_at ht, bn_bit _ (by omega), bn_bit _ (by omega)]
  unfold co
  rw [ub_take, ub_take]
  by_cases h1 : (127 - t) / 8 < k
  · have h2 : 8 ≤ t - (56 - k % 8 * 8) := by omega
    rw [if_pos h1, if_pos (by omega), u8_bit_out _ h2]
    simp
  · rw [if_neg h1]
    by_cases h2 : (127 - t) / 8 = k
    · subst h2
      have h3 : 56 - (127 - t) / 8 % 8 * 8 ≤ t := by omega
      rw [if_pos (by omega), show 7 - (127 - t) % 8 = t - (56 - (127 - t) / 8 % 8 * 8) by omega]
      simp [h3]
    · have h3 : ¬ (56 - k % 8 * 8 ≤ t) := by omega
      rw [if_neg (by omega)]
      simp [h3]
theorem w0_same (L : List UInt8) {k : Nat} (h : 8 ≤ k) : w0 (bn (L.take (k + 1))) = w0 (bn (L.take k)) := by
  refine bits_ext (n := 64) (mkN_lt _ _) (mkN_lt _ _) fun t ht => ?_
  unfold w0
  rw [mkN_at ht, mkN_at ht, bn_bit _ (by omega), bn_bit _ (by omega)]
  unfold co
  rw [ub_take, ub_take, if_pos (by omega), if_pos (by omega)]
theorem w1_same (L : List UInt8) {k : Nat} (h : k < 8) : w1 (bn (L.take (k + 1))) = w1 (bn (L.take k)) := by
  refine bits_ext (n := 64) (mkN_lt _ _) (mkN_lt _ _) fun t ht => ?_
  unfold w1
  rw [mkN_at ht, mkN_at ht, bn_bit _ (by omega), bn_bit _ (by omega)]
  unfold co
  rw [ub_take, ub_take, if_neg (by omega), if_neg (by omega)]
/-- One of both words. -/
def wi (N j : Nat) : Nat := if j = 0 then w0 N else w1 N
theorem wi_lt (N j : Nat) : wi N j < B64 := by unfold wi; split; exact w0_lt N; exact w1_lt N
theorem wi_byte (N : Nat) {i : Nat} (h : i < 16) : wi N (i / 8) / 2 ^ (56 - i % 8 * 8) % 256 = (by8 N i).toNat := by
  rw [by8_nat]
  refine bits_ext (n := 8) (Nat.mod_lt _ (by decide)) (mkN_lt _ _) fun t ht => ?_
  rw [show (256 : Nat) = 2 ^ 8 from rfl, Nat.testBit_mod_two_pow, Nat.testBit_div_two_pow, mkN_at ht]
  unfold wi w0 w1
  by_cases h8 : i / 8 = 0
  · rw [if_pos h8, mkN_at (by omega), show 63 - (t + (56 - i % 8 * 8)) = 8 * i + 7 - t by omega]
    simp [ht]
  · rw [if_neg h8, mkN_at (by omega), show 127 - (t + (56 - i % 8 * 8)) = 8 * i + 7 - t by omega]
    simp [ht]
/-- The block of two words. -/
def ofW (a b : Nat) : Nat := mkN 128 fun i => if i < 64 then a.testBit (63 - i) else b.testBit (127 - i)
theorem ofW_lt (a b : Nat) : ofW a b < B128 := mkN_lt 128 _
theorem w0_of {a : Nat} (b : Nat) (h : a < B64) : w0 (ofW a b) = a := bits_ext (n := 64) (mkN_lt _ _) h fun t ht => by
  unfold w0 ofW
  rw [mkN_at ht, mkN_at (by omega), if_pos (by omega), show 63 - (63 - t) = t by omega]
theorem w1_of (a : Nat) {b : Nat} (h : b < B64) : w1 (ofW a b) = b := bits_ext (n := 64) (mkN_lt _ _) h fun t ht => by
  unfold w1 ofW
  rw [mkN_at ht, mkN_at (by omega), if_neg (by omega), show 127 - (127 - t) = t by omega]
theorem ofW_w {N : Nat} (h : N < B128) : ofW (w0 N) (w1 N) = N := bits_ext (n := 128) (mkN_lt _ _) h fun i hi => by
  unfold ofW w0 w1
  rw [mkN_at hi]
  by_cases h1 : i < 64
  · rw [if_pos h1, mkN_at (by omega), show 63 - (63 - i) = i by omega]
  · rw [if_neg h1, mkN_at (by omega), show 127 - (127 - i) = i by omega]
/-- A word's mask. -/
def msk (b : Bool) : Nat := sel b 18446744073709551615
theorem and_msk {x : Nat} (b : Bool) (h : x < B64) : x &&& msk b = sel b x := by
  cases b
  · simp [msk, sel]
  · show x &&& (2 ^ 64 - 1) = x
    rw [Nat.and_two_pow_sub_one_eq_mod, Nat.mod_eq_of_lt h]
theorem msk_and {x : Nat} (b : Bool) (h : x < B64) : msk b &&& x = sel b x := by rw [Nat.and_comm, and_msk b h]
theorem w0_sel (b : Bool) (x : Nat) : w0 (sel b x) = sel b (w0 x) := by
  cases b
  · show w0 0 = 0
    decide +kernel
  · rfl
theorem w1_sel (b : Bool) (x : Nat) : w1 (sel b x) = sel b (w1 x) := by
  cases b
  · show w1 0 = 0
    decide +kernel
  · rfl
theorem gd_bit (a : Nat) {i : Nat} (h : i < 128) : (gd a).testBit i = ((decide (1 ≤ i) && a.testBit (i - 1)) ^^ (a.testBit 127 && (135 : Nat).testBit i)) := by
  unfold gd
  rw [Nat.testBit_xor]
  congr 1
  · rw [show a % 170141183460469231731687303715884105728 * 2 = a % 2 ^ 127 * 2 ^ 1 from rfl, shl_bit, Nat.testBit_mod_two_pow]
    have : i - 1 < 127 := by omega
    simp [this]
  · cases a.testBit 127 <;> simp [sel]
theorem raised0 (A : Nat) : w0 A / 2 ^^^ sel ((w1 A).testBit 0) 16212958658533785600 = w0 (gd A) := by
  have hA : (w1 A).testBit 0 = A.testBit 127 := mkN_at (by omega)
  rw [hA]
  have hd : ∀ t, t < 64 → (16212958658533785600 : Nat).testBit t = (135 : Nat).testBit (63 - t) := by decide +kernel
  refine bits_ext (n := 64) (Nat.xor_lt_two_pow (Nat.lt_of_le_of_lt (Nat.div_le_self _ _) (w0_lt A)) (sel_lt (by decide) (by decide))) (mkN_lt _ _) fun t ht => ?_
  rw [Nat.testBit_xor]
  unfold w0
  rw [mkN_at ht, gd_bit A (by omega), show ∀ x : Nat, x / 2 = x / 2 ^ 1 from fun _ => rfl, Nat.testBit_div_two_pow, mkN_bit]
  congr 1
  · by_cases h1 : t + 1 < 64
    · have : 1 ≤ 63 - t := by omega
      rw [show 63 - (t + 1) = 63 - t - 1 by omega]
      simp [h1, this]
    · have : ¬ 1 ≤ 63 - t := by omega
      simp [h1, this]
  · rw [← hd t ht]
    cases A.testBit 127 <;> simp [sel]
theorem raised1 (A : Nat) : w0 A * 2 ^ 63 % 18446744073709551616 ||| w1 A / 2 = w1 (gd A) := by
  have hd : ∀ t, t < 64 → (135 : Nat).testBit (127 - t) = false := by decide +kernel
  refine bits_ext (n := 64) (Nat.or_lt_two_pow (Nat.mod_lt _ (by decide)) (Nat.lt_of_le_of_lt (Nat.div_le_self _ _) (w1_lt A))) (mkN_lt _ _) fun t ht => ?_
  rw [Nat.testBit_or, show (18446744073709551616 : Nat) = 2 ^ 64 from rfl, Nat.testBit_mod_two_pow, shl_bit]
  unfold w0 w1
  rw [mkN_at ht, gd_bit A (by omega), hd t ht, show ∀ x : Nat, x / 2 = x / 2 ^ 1 from fun _ => rfl, Nat.testBit_div_two_pow, mkN_bit, mkN_bit]
  have h127 : 1 ≤ 127 - t := by omega
  by_cases h1 : t = 63
  · subst h1
    simp
  · have h2 : ¬ 63 ≤ t := by omega
    have h3 : t + 1 < 64 := by omega
    rw [show 127 - (t + 1) = 127 - t - 1 by omega]
    simp [h2, h3, h127]
/-- The product by the first so many bits. -/
def pA (A B : Nat) : Nat → Nat
  | 0 => 0
  | k + 1 => pA A B k ^^^ sel (B.testBit k) (gX k A)
theorem lin_pA (A k : Nat) : Lin fun B => pA A B k := by
  induction k with
  | zero => exact Lin.none
  | succ k ih => exact Lin.add (f := fun B => pA A B k) ih (Lin.bit k (gX k A))
theorem pA_two (A i : Nat) : ∀ k, pA A (2 ^ i) k = sel (decide (i < k)) (gX i A) := by
  intro k
  induction k with
  | zero => rfl
  | succ k ih =>
    rw [pA, ih, Nat.testBit_two_pow]
    by_cases h : i = k
    · subst h
      have : i < i + 1 := by omega
      simp [sel, this]
    · by_cases h2 : i < k
      · have : i < k + 1 := by omega
        simp [sel, h, h2, this]
      · have : ¬ i < k + 1 := by omega
        simp [sel, h, h2, this]
theorem pA_all {A B : Nat} (hB : B < B128) : pA A B 128 = gm A B :=
  block_ext (f := fun B => pA A B 128) (g := fun B => gm A B) (lin_pA A 128) (gm_right A) (fun i hi => by
    show pA A (2 ^ i) 128 = gm A (2 ^ i)
    rw [pA_two, gm_pow A hi]
    simp [sel, hi]) B hB
/-- A word's bits that are left, after so many rounds. -/
def shW (x k : Nat) : Nat := x * 2 ^ k % 18446744073709551616
theorem shW_zero {x : Nat} (h : x < B64) : shW x 0 = x := by unfold shW; rw [Nat.pow_zero, Nat.mul_one]; exact Nat.mod_eq_of_lt h
theorem shW_more (x k : Nat) : shW x k * 2 % 18446744073709551616 = shW x (k + 1) := by
  unfold shW
  rw [Nat.mod_mul_mod, Nat.pow_succ, Nat.mul_assoc]
theorem shW_lt (x k : Nat) : shW x k < B64 := Nat.mod_lt _ (by decide)
theorem shW_top (N : Nat) {j k : Nat} (hj : j < 2) (hk : k < 64) : shW (wi N j) k / 9223372036854775808 = (if N.testBit (64 * j + k) then 1 else 0) := by
  have h1 : shW (wi N j) k / 9223372036854775808 < 2 ^ 1 := by
    have : shW (wi N j) k < 18446744073709551616 := shW_lt (wi N j) k
    omega
  have h2 : (shW (wi N j) k / 9223372036854775808).testBit 0 = N.testBit (64 * j + k) := by
    rw [show (9223372036854775808 : Nat) = 2 ^ 63 from rfl, Nat.testBit_div_two_pow]
    unfold shW
    rw [show (18446744073709551616 : Nat) = 2 ^ 64 from rfl, Nat.testBit_mod_two_pow, shl_bit]
    have h3 : k ≤ 0 + 63 := by omega
    unfold wi w0 w1
    by_cases hj0 : j = 0
    · subst hj0
      rw [if_pos rfl, mkN_at (by omega), show 63 - (0 + 63 - k) = 64 * 0 + k by omega]
      simp [h3]
    · obtain rfl : j = 1 := by omega
      rw [if_neg (by omega), mkN_at (by omega), show 127 - (0 + 63 - k) = 64 * 1 + k by omega]
      simp [h3]
  generalize shW (wi N j) k / 9223372036854775808 = y at h1 h2
  rw [← h2]
  have : y = 0 ∨ y = 1 := by omega
  rcases this with rfl | rfl <;> rfl
end Go.Proofs.Ytlfghagidajpeaa
