/- Texts of this seat, one behind the other: GWord, GRMath, GPoly, GRBit, GRFlip. -/
import Derived.Test.YtcecjoodlmpgnaaGreatQ05
/- The contracts of isBlock, shiftOf, allOf, raised and plus. -/
namespace Go.Proofs.YtcecjoodlmpgnaaGreat
open Go.RowKit

/-- A word, and a polynomial, in memory. -/
abbrev qv (n : Nat) : Value := .int .u64 (n : Int)
abbrev Pol (N : Nat) : Array Value := #[qv (w0 N), qv (w1 N)]

set_option maxRecDepth 100000 in
set_option maxHeartbeats 1000000 in
theorem isBlock_any (s : List UInt8) (w : World) :
    Calls Tryz.prog 67 #[.string ⟨s.toArray⟩] w fun e w' => e = .returned (.bool (decide (s.length = 16))) ∧ w = w' := by
  have hz := size_of s
  by_cases h : s.length = 16
  · rw [h] at hz
    go_enter Tryz.func67, Tryz.ntmps67
    go_wp2
    go_ret
    simp [h]
  · have h1 : ((s.length : Int) == 16) = false := by simp; omega
    have h2 : (s.length == 16) = false := by simp; omega
    go_enter Tryz.func67, Tryz.ntmps67
    go_wp2
    go_ret
    simp [h]

set_option maxRecDepth 100000 in
set_option maxHeartbeats 1000000 in
theorem shiftOf_any (i : Nat) (w : World) (hi : i < 16) :
    Calls Tryz.prog 94 #[.int .i64 (i : Int)] w fun e w' => e = .returned (.int .i64 ((56 - i % 8 * 8 : Nat) : Int)) ∧ w = w' := by
  go_enter Tryz.func94, Tryz.ntmps94
  go_wp2
  go_ret
  refine ⟨?_, rfl⟩
  go_num

set_option maxRecDepth 100000 in
set_option maxHeartbeats 1000000 in
theorem allOf_none (w : World) : Calls Tryz.prog 98 #[.int .u64 0] w fun e w' => e = .returned (.int .u64 0) ∧ w = w' := by
  go_enter Tryz.func98, Tryz.ntmps98
  go_wp2
  go_ret
  exact ⟨rfl, rfl⟩
set_option maxRecDepth 100000 in
set_option maxHeartbeats 1000000 in
theorem allOf_one (w : World) : Calls Tryz.prog 98 #[.int .u64 1] w fun e w' => e = .returned (.int .u64 18446744073709551615) ∧ w = w' := by
  go_enter Tryz.func98, Tryz.ntmps98
  go_wp2
  go_ret
  exact ⟨rfl, rfl⟩
/-- One bit's word. -/
def onb (b : Bool) : Nat := if b then 1 else 0
theorem allOf_any (b : Bool) (w : World) : Calls Tryz.prog 98 #[qv (onb b)] w fun e w' => e = .returned (qv (msk b)) ∧ w = w' := by
  cases b
  · exact allOf_none w
  · exact allOf_one w

set_option maxRecDepth 100000 in
set_option maxHeartbeats 1000000 in
theorem raised_any (A : Nat) (w : World) :
    Calls Tryz.prog 99 #[qv (w0 A), qv (w1 A)] w fun e w' => e = .returned (.tuple #[qv (w0 (gd A)), qv (w1 (gd A))]) ∧ w = w' := by
  have a0 := w0_lt A
  have a1 := w1_lt A
  have h1 : bits .and .u64 ((w1 A : Nat) : Int) 1 = ((onb ((w1 A).testBit 0) : Nat) : Int) := by
    have := u64_and_nat (w1 A) 1 a1 (by decide)
    rw [Nat.and_one_is_mod] at this
    rw [show ((1 : Nat) : Int) = 1 from rfl] at this
    rw [this, Nat.testBit_zero]
    have h2 := Nat.mod_two_eq_zero_or_one (w1 A)
    rcases h2 with h2 | h2 <;> rw [h2] <;> rfl
  have r0 := raised0 A
  have r1 := raised1 A
  obtain ⟨b, hb⟩ : ∃ b, (w1 A).testBit 0 = b := ⟨_, rfl⟩
  rw [hb] at h1 r0
  have h2 : bits .and .u64 (16212958658533785600 : Int) ((msk b : Nat) : Int) = ((sel b 16212958658533785600 : Nat) : Int) := by
    have := u64_and_nat 16212958658533785600 (msk b) (by decide) (sel_lt (by decide) (by decide))
    rw [and_msk b (by decide)] at this
    exact this
  have h3 : bits .xor .u64 (((w0 A : Nat) : Int) / 2) ((sel b 16212958658533785600 : Nat) : Int) = ((w0 (gd A) : Nat) : Int) := by
    have := u64_xor_nat (w0 A / 2) (sel b 16212958658533785600) (by have : w0 A < 18446744073709551616 := a0; omega) (sel_lt (by decide) (by decide))
    rw [r0] at this
    rw [← this]
    rfl
  have h4 : bits .or .u64 (IntKind.u64.wrap (((w0 A : Nat) : Int) * 9223372036854775808)) (((w1 A : Nat) : Int) / 2) = ((w1 (gd A) : Nat) : Int) := by
    rw [IntKind.wrap_u64]
    have := u64_or_nat (w0 A * 2 ^ 63 % 18446744073709551616) (w1 A / 2) (Nat.mod_lt _ (by decide)) (by have : w1 A < 18446744073709551616 := a1; omega)
    rw [r1] at this
    rw [← this]
    rfl
  have HA := Lib.hid (fun W => allOf_any b W)
  clear a0 a1 r0 r1 hb
  generalize w0 A = x at h3 h4 ⊢
  generalize w1 A = y at h1 h4 ⊢
  generalize w0 (gd A) = x' at h3 ⊢
  generalize w1 (gd A) = y' at h4 ⊢
  generalize onb b = c at h1 HA
  generalize sel b 16212958658533785600 = d at h2 h3
  generalize msk b = m at h2 HA
  go_enter Tryz.func99, Tryz.ntmps99
  go_wp2_with fail
  refine (HA.out _).mono ?_
  rintro e w1 ⟨rfl, rfl⟩
  go_wp2_with fail
  go_ret2
  exact ⟨rfl, rfl⟩

theorem plen (N : Nat) : (Tryz.prog.info? 109).map (·.size) = some (Pol N).size := by kernel_rfl
set_option maxRecDepth 100000 in
set_option maxHeartbeats 1000000 in
theorem plus_any (A B : Nat) (w : World) :
    Calls Tryz.prog 70 #[.agg (Pol A), .agg (Pol B)] w fun e w' => e = .returned (.agg (Pol (A ^^^ B))) ∧ Below w.heap.size w w' := by
  have h1 := u64_xor_nat (w0 A) (w0 B) (w0_lt A) (w0_lt B)
  have h2 := u64_xor_nat (w1 A) (w1 B) (w1_lt A) (w1_lt B)
  rw [← w0_xor] at h1
  rw [← w1_xor] at h2
  have HL := Lib.hid (plen (A ^^^ B))
  unfold Pol at HL ⊢
  generalize w0 (A ^^^ B) = x at h1 HL ⊢
  generalize w1 (A ^^^ B) = y at h2 HL ⊢
  generalize w0 A = a at h1 ⊢
  generalize w1 A = b at h2 ⊢
  generalize w0 B = c at h1 ⊢
  generalize w1 B = d at h2 ⊢
  go_enter Tryz.func70, Tryz.ntmps70
  go_wp2
  refine bodyPost_ret (v := .agg #[qv x, qv y]) (results_cell_row rfl _ _ _ _ _ _ _ rfl (Blk.newAt (by simp) _ _) Tryz.underlying109 rfl HL.out) rfl ?_
  exact ⟨rfl, ba (ba (ba (Below.refl _ _) _) _) _⟩
end Go.Proofs.YtcecjoodlmpgnaaGreat
/- The reference's long product in plain numbers: it is the product. Nothing of any function. -/
namespace Go.Proofs.YtcecjoodlmpgnaaGreat

/-- Odd or not: how many of the first so many are true. -/
def par : Nat → (Nat → Bool) → Bool
  | 0, _ => false
  | n + 1, f => par n f ^^ f n
theorem par_xor (n : Nat) (f g : Nat → Bool) : par n (fun i => f i ^^ g i) = (par n f ^^ par n g) := by
  induction n with
  | zero => rfl
  | succ n ih =>
    rw [par, ih, par, par]
    cases par n f <;> cases par n g <;> cases f n <;> cases g n <;> rfl
theorem par_one (n k : Nat) (g : Nat → Bool) : par n (fun i => decide (i = k) && g i) = (decide (k < n) && g k) := by
  induction n with
  | zero => simp [par]
  | succ n ih =>
    rw [par, ih]
    by_cases h : n = k
    · subst h
      simp
    · have h2 : (k < n + 1) ↔ (k < n) := by omega
      simp [h, h2]
theorem par_ext {n : Nat} {f g : Nat → Bool} (h : ∀ i, i < n → f i = g i) : par n f = par n g := by
  induction n with
  | zero => rfl
  | succ n ih => rw [par, par, ih (fun i hi => h i (by omega)), h n (by omega)]
/-- One of the long product's bits: so many of its rounds. -/
def lonT (A B p i : Nat) : Bool := decide (i ≤ p) && decide (p < i + 128) && A.testBit i && B.testBit (p - i)
def lon (A B p : Nat) : Bool := par 128 (lonT A B p)
theorem lon_left (A A' B p : Nat) : lon (A ^^^ A') B p = (lon A B p ^^ lon A' B p) := by
  unfold lon
  rw [← par_xor]
  refine par_ext fun i _ => ?_
  unfold lonT
  rw [Nat.testBit_xor]
  cases decide (i ≤ p) <;> cases decide (p < i + 128) <;> cases A.testBit i <;> cases A'.testBit i <;> cases B.testBit (p - i) <;> rfl
theorem lon_right (A B B' p : Nat) : lon A (B ^^^ B') p = (lon A B p ^^ lon A B' p) := by
  unfold lon
  rw [← par_xor]
  refine par_ext fun i _ => ?_
  unfold lonT
  rw [Nat.testBit_xor]
  cases decide (i ≤ p) <;> cases decide (p < i + 128) <;> cases A.testBit i <;> cases B.testBit (p - i) <;> cases B'.testBit (p - i) <;> rfl
theorem lon_two {i j : Nat} (hi : i < 128) (hj : j < 128) (p : Nat) : lon (2 ^ i) (2 ^ j) p = decide (p = i + j) := by
  unfold lon
  have : ∀ k, k < 128 → lonT (2 ^ i) (2 ^ j) p k = (decide (k = i) && decide (p = i + j)) := by
    intro k _
    unfold lonT
    rw [Nat.testBit_two_pow, Nat.testBit_two_pow]
    by_cases h : k = i
    · subst h
      by_cases h2 : p = k + j
      · subst h2
        have h3 : k ≤ k + j := by omega
        have h4 : k + j < k + 128 := by omega
        have h5 : j = k + j - k := by omega
        simp [h3, h4, ← h5]
      · by_cases h3 : k ≤ p
        · have h5 : ¬ j = p - k := by omega
          simp [h2, h5]
        · simp [h2, h3]
    · have h3 : ¬ i = k := fun e => h e.symm
      simp [h, h3]
  rw [par_ext this, par_one]
  simp [hi]
/-- What a row of bits tells: the bit p is that of x^p. -/
def gval : Nat → (Nat → Bool) → Nat
  | 0, _ => 0
  | n + 1, f => gval n f ^^^ sel (f n) (gX n 1)
theorem val_xor (n : Nat) (f g : Nat → Bool) : gval n (fun i => f i ^^ g i) = gval n f ^^^ gval n g := by
  induction n with
  | zero => exact (Nat.xor_self 0).symm
  | succ n ih => rw [gval, ih, gval, gval, sel_bits, xor4]
theorem val_one (n k : Nat) : gval n (fun i => decide (i = k)) = sel (decide (k < n)) (gX k 1) := by
  induction n with
  | zero => simp [gval, sel]
  | succ n ih =>
    rw [gval, ih]
    by_cases h : n = k
    · subst h
      simp [sel]
    · have h2 : (k < n + 1) ↔ (k < n) := by omega
      simp [h, h2, sel]
theorem val_ext {n : Nat} {f g : Nat → Bool} (h : ∀ i, i < n → f i = g i) : gval n f = gval n g := by
  induction n with
  | zero => rfl
  | succ n ih => rw [gval, gval, ih (fun i hi => h i (by omega)), h n (by omega)]
theorem val_lon_two {i j : Nat} (hi : i < 128) (hj : j < 128) : gval 255 (lon (2 ^ i) (2 ^ j)) = gm (2 ^ i) (2 ^ j) := by
  rw [val_ext (g := fun p => decide (p = i + j)) (fun p _ => lon_two hi hj p), val_one, gm_pow _ hj, ← gX_one hi, ← gX_add, Nat.add_comm j i]
  have : i + j < 255 := by omega
  simp [this, sel]
/-- The long product tells the product. -/
theorem val_lon {A B : Nat} (hA : A < B128) (hB : B < B128) : gval 255 (lon A B) = gm A B :=
  block_ext (f := fun A => gval 255 (lon A B)) (g := fun A => gm A B) (fun a b => by
    show gval 255 (lon (a ^^^ b) B) = gval 255 (lon a B) ^^^ gval 255 (lon b B)
    rw [← val_xor]
    exact val_ext fun p _ => lon_left a b B p) (gm_left B) (fun i hi =>
    block_ext (f := fun B => gval 255 (lon (2 ^ i) B)) (g := fun B => gm (2 ^ i) B) (fun a b => by
      show gval 255 (lon (2 ^ i) (a ^^^ b)) = gval 255 (lon (2 ^ i) a) ^^^ gval 255 (lon (2 ^ i) b)
      rw [← val_xor]
      exact val_ext fun p _ => lon_right _ a b p) (gm_right (2 ^ i)) (fun j hj => val_lon_two hi hj) B hB) A hA
/-- One bit turned. -/
def flipF (f : Nat → Bool) (i : Nat) : Nat → Bool := fun q => f q ^^ decide (q = i)
theorem val_flip {n i : Nat} (f : Nat → Bool) (h : i < n) : gval n (flipF f i) = gval n f ^^^ gX i 1 := by
  unfold flipF
  rw [val_xor, val_one]
  simp [h, sel]
def stepF (f : Nat → Bool) (p : Nat) : Nat → Bool := if f p then flipF (flipF (flipF (flipF f (p - 128)) (p - 127)) (p - 126)) (p - 121) else f
theorem gX_over : gX 128 1 = gX 0 1 ^^^ gX 1 1 ^^^ gX 2 1 ^^^ gX 7 1 := by
  rw [show gX 128 1 = gd (gX 127 1) from rfl, gX_one (i := 127) (by omega), gX_one (i := 0) (by omega), gX_one (i := 1) (by omega), gX_one (i := 2) (by omega), gX_one (i := 7) (by omega)]
  decide +kernel
theorem gX_left {p : Nat} (h : 128 ≤ p) : gX p 1 = gX (p - 128) 1 ^^^ gX (p - 127) 1 ^^^ gX (p - 126) 1 ^^^ gX (p - 121) 1 := by
  obtain ⟨d, rfl⟩ : ∃ d, p = d + 128 := ⟨p - 128, by omega⟩
  rw [gX_add, gX_over, lin_gX d, lin_gX d, lin_gX d, ← gX_add, ← gX_add, ← gX_add, ← gX_add, show d + 128 - 128 = d + 0 by omega, show d + 128 - 127 = d + 1 by omega, show d + 128 - 126 = d + 2 by omega, show d + 128 - 121 = d + 7 by omega]
theorem val_step (f : Nat → Bool) {p : Nat} (h : 128 ≤ p) : gval p (stepF f p) = gval (p + 1) f := by
  unfold stepF
  rw [gval]
  cases hp : f p
  · simp [sel]
  · rw [if_pos rfl, val_flip _ (by omega), val_flip _ (by omega), val_flip _ (by omega), val_flip _ (by omega)]
    show _ = gval p f ^^^ gX p 1
    rw [gX_left h, Nat.xor_assoc, Nat.xor_assoc, Nat.xor_assoc, Nat.xor_assoc, Nat.xor_assoc]
/-- The row after so many of the steps down. -/
def down (f : Nat → Bool) : Nat → Nat → Bool
  | 0 => f
  | j + 1 => stepF (down f j) (254 - j)
theorem val_down (f : Nat → Bool) (j : Nat) (h : j ≤ 127) : gval (255 - j) (down f j) = gval 255 f := by
  induction j with
  | zero => rfl
  | succ j ih =>
    rw [down, show 255 - (j + 1) = 254 - j by omega, val_step _ (by omega), show 254 - j + 1 = 255 - j by omega]
    exact ih (by omega)
theorem val_short (f : Nat → Bool) : ∀ n, n ≤ 128 → gval n f = mkN n f := by
  intro n
  induction n with
  | zero => intro _; rfl
  | succ n ih =>
    intro h
    rw [gval, mkN, ih (by omega), gX_one (by omega)]
    refine bits_ext (n := n + 1) (Nat.xor_lt_two_pow (Nat.lt_of_lt_of_le (mkN_lt n f) (Nat.pow_le_pow_right (by omega) (by omega))) (sel_lt (Nat.two_pow_pos _) (Nat.pow_lt_pow_right (by omega) (by omega)))) (Nat.or_lt_two_pow (Nat.lt_of_lt_of_le (mkN_lt n f) (Nat.pow_le_pow_right (by omega) (by omega))) (sel_lt (Nat.two_pow_pos _) (Nat.pow_lt_pow_right (by omega) (by omega)))) fun i hi => ?_
    rw [Nat.testBit_xor, Nat.testBit_or, mkN_bit]
    cases hf : f n
    · simp [sel]
    · simp only [sel, cond_true]
      rw [Nat.testBit_two_pow]
      by_cases h1 : i < n
      · have : ¬ n = i := by omega
        simp [this]
      · simp [h1]
/-- The reference's product is the product. -/
theorem down_is {A B : Nat} (hA : A < B128) (hB : B < B128) : mkN 128 (down (lon A B) 127) = gm A B := by
  rw [← val_short _ 128 (Nat.le_refl _), ← val_lon hA hB]
  exact val_down _ 127 (Nat.le_refl _)
/-- A byte's reckoning out of its bits, the highest first. -/
def byF (g : Nat → Bool) : Nat → Nat
  | 0 => 0
  | k + 1 => 2 * byF g k + (if g k then 1 else 0)
theorem byF_is (g : Nat → Bool) : ∀ k, byF g k = mkN k (fun t => g (k - 1 - t)) := by
  intro k
  induction k with
  | zero => rfl
  | succ k ih =>
    have hb : byF g k < 2 ^ k := by rw [ih]; exact mkN_lt _ _
    refine bits_ext (n := k + 1) ?_ (mkN_lt _ _) fun i hi => ?_
    · rw [byF, Nat.pow_succ]; split <;> omega
    · rw [mkN_at hi, byF]
      cases i with
      | zero =>
        rw [Nat.testBit_zero]
        cases hg : g k <;> simp [hg] <;> omega
      | succ i =>
        rw [Nat.testBit_succ, show (2 * byF g k + if g k then 1 else 0) / 2 = byF g k by split <;> omega, ih, mkN_at (by omega)]
        congr 1
        omega
theorem byF_lt (g : Nat → Bool) (k : Nat) : byF g k < 2 ^ k := by rw [byF_is]; exact mkN_lt _ _
theorem byF_by8 (f : Nat → Bool) {i : Nat} (h : i < 16) : byF (fun k => f (8 * i + k)) 8 = (by8 (mkN 128 f) i).toNat := by
  rw [byF_is, by8_nat]
  refine mkN_ext fun t ht => ?_
  rw [mkN_at (by omega)]
  show f (8 * i + (8 - 1 - t)) = _
  congr 1
  omega
end Go.Proofs.YtcecjoodlmpgnaaGreat
/- The contract of polynomialOf. -/
namespace Go.Proofs.YtcecjoodlmpgnaaGreat
open Go.RowKit

theorem pol_zero : (Pol (bn (([] : List UInt8).take 0))) = #[qv 0, qv 0] := by
  have h : bn [] = 0 := by decide +kernel
  rw [List.take_nil, h]
  have h0 : w0 0 = 0 := by decide +kernel
  have h1 : w1 0 = 0 := by decide +kernel
  unfold Pol
  rw [h0, h1]
theorem pol_at (N : Nat) {j : Nat} (h : j < 2) : (Pol N)[j]? = some (qv (wi N j)) := by
  obtain rfl | rfl : j = 0 ∨ j = 1 := by omega
  · rfl
  · rfl
/-- A word with a byte more. -/
def orB (L : List UInt8) (k : Nat) : Nat := wi (bn (L.take k)) (k / 8) ||| (ub L k).toNat * 2 ^ (56 - k % 8 * 8)
theorem pol_set (L : List UInt8) {k : Nat} (h : k < 16) : (Pol (bn (L.take k))).setIfInBounds (k / 8) (qv (orB L k)) = Pol (bn (L.take (k + 1))) := by
  unfold orB wi
  by_cases h8 : k < 8
  · rw [if_pos (by omega), ← w0_more L h8, show k / 8 = 0 by omega]
    unfold Pol
    rw [w1_same L h8]
    rfl
  · rw [if_neg (by omega), ← w1_more L (by omega) h, show k / 8 = 1 by omega]
    unfold Pol
    rw [w0_same L (by omega)]
    rfl
theorem orB_is (L : List UInt8) (k : Nat) : bits .or .u64 ((wi (bn (L.take k)) (k / 8) : Nat) : Int) (((ub L k).toNat * 2 ^ (56 - k % 8 * 8) : Nat) : Int) = ((orB L k : Nat) : Int) :=
  u64_or_nat _ _ (wi_lt _ _) (byte_lt _ (by omega))
theorem shl_byte (b : UInt8) {s : Nat} (h : s ≤ 56) : IntKind.u64.wrap ((b.toNat : Int) * 2 ^ s) = ((b.toNat * 2 ^ s : Nat) : Int) := by
  have h1 : b.toNat * 2 ^ s < 18446744073709551616 := byte_lt b h
  have h2 : (b.toNat : Int) * 2 ^ s = ((b.toNat * 2 ^ s : Nat) : Int) := by simp
  rw [IntKind.wrap_u64, h2]
  omega
theorem gindex_of (l : List UInt8) (i : Nat) (k : Int) (hk : (i : Int) = k) (h : i < l.length) (W : World) : (Instr.index 9 (.string ⟨l.toArray⟩) (.int .i64 k)).run Tryz.prog W = .ok (uv (ub l i)) W :=
  index_is _ i k (ub l i) hk (at_get l i h) W

set_option maxRecDepth 100000 in
set_option maxHeartbeats 2000000 in
theorem polynomialOf_any (L : List UInt8) (n : Nat) (w : World) (hL : L.length = n) (hn : n ≤ 16) :
    Calls Tryz.prog 68 #[.string ⟨L.toArray⟩] w fun e w' => e = .returned (.agg (Pol (bn L))) ∧ Below w.heap.size w w' := by
  have HI := Lib.hid (gindex_of L)
  have HL := Lib.hid hL
  have hs := size_of L
  rw [hL] at hs HI
  have HZ : Hid (#[qv 0, qv 0] = Pol (bn (L.take 0))) := Lib.hid (by rw [List.take_zero, ← pol_zero, List.take_nil])
  have HN : Hid (L.take n = L) := Lib.hid (List.take_of_length_le (by omega))
  have HAT := Lib.hid (fun (k : Nat) (hk : k < 16) => pol_at (bn (L.take k)) (j := k / 8) (by omega))
  have HSET := Lib.hid (fun (k : Nat) (hk : k < 16) => pol_set L hk)
  have HOR := Lib.hid (fun (k : Nat) (_ : k < 16) => orB_is L k)
  clear hL
  go_enter Tryz.func68, Tryz.ntmps68
  go_wp2_with fail
  go_loopw [7] (fun iv wr => ∃ k : Nat, k ≤ n ∧ iv = .int .i64 k ∧ Hid (Blk wr w.heap.size 109 #[qv 0, qv 0]) ∧ Hid (Blk wr (w.heap.size + 1) 109 (Pol (bn (L.take k)))) ∧ Below w.heap.size w wr) (fun iv _ => n - (intOf iv).toNat)
  case atStart =>
    refine ⟨0, Nat.zero_le _, rfl, Lib.hid ?_, Lib.hid ?_, ba (ba (Below.refl _ _) _) _⟩
    · exact (Blk.new w _ _).alloc _
    · rw [← HZ.out]; exact Blk.newAt (by simp) _ _
  case round =>
    obtain ⟨k, hk, rfl, Z, P, hb⟩ := hrel
    by_cases hlt : k < n
    · have hki : (k : Int) < (n : Int) := by omega
      have hk16 : k < 16 := by omega
      have HX := Lib.hid (HI.out k k rfl hlt)
      have HC := Lib.hid ((P.out.cell (k / 8)).trans (HAT.out k hk16))
      have hf := P.out.frozen (k / 8)
      have HS := Lib.hid (fun W => shiftOf_any k W hk16)
      have HO := Lib.hid (HOR.out k hk16)
      have hP2 := (P.out.set_ (k / 8) (qv (orB L k)))
      rw [HSET.out k hk16] at hP2
      have HP2 := Lib.hid hP2
      have HB := Lib.hid (byte_lt (ub L k) (s := 56 - k % 8 * 8) (by omega))
      generalize wi (bn (L.take k)) (k / 8) = x at HC HO
      generalize ub L k = b at HX HO HB
      obtain ⟨s, hs56⟩ : ∃ s, 56 - k % 8 * 8 = s := ⟨_, rfl⟩
      have hsl : s ≤ 56 := by omega
      rw [hs56] at HS HO HB
      obtain ⟨j, hj⟩ : ∃ j, k / 8 = j := ⟨_, rfl⟩
      have hj2 : j < 2 := by omega
      have hji : (k : Int) / 8 = (j : Int) := by omega
      rw [hj] at HC hf HP2
      generalize orB L k = y at HO HP2
      have hsh := shl_byte b hsl
      obtain ⟨v, hv⟩ : ∃ v, b.toNat * 2 ^ s = v := ⟨_, rfl⟩
      rw [hv] at hsh HO
      have HSH := Lib.hid hsh
      clear hv hsh HB
      clear hP2 hs56 hj
      go_wp2_with fail
      have hc1 : wr.drew.cell? ⟨w.heap.size + 1, j, none⟩ = some (qv x) := HC.out
      have hf1 : wr.drew.frozen? ⟨w.heap.size + 1, j, none⟩ = false := hf
      have P2 := HP2.out.drew
      have Z2 := (Z.out.far (p := ⟨w.heap.size + 1, j, none⟩) (by simp) (qv y)).drew
      have hb2 := (bs hb (b := w.heap.size + 1) (o := j) (by omega) (qv y)).drew
      have HPZ : Hid (Blk ((wr.setCell ⟨w.heap.size + 1, j, none⟩ (qv y)).drew) (w.heap.size + 1) 109 (Pol (bn (L.take (k + 1)))) ∧ Blk ((wr.setCell ⟨w.heap.size + 1, j, none⟩ (qv y)).drew) w.heap.size 109 #[qv 0, qv 0] ∧ Below w.heap.size w ((wr.setCell ⟨w.heap.size + 1, j, none⟩ (qv y)).drew)) := Lib.hid ⟨P2, Z2, hb2⟩
      have HJW : Hid (IntKind.i64.wrap (j : Int) = (j : Int)) := Lib.hid (by have h64 := IntKind.wrap_i64; rw [h64]; omega)
      have HBW : Hid (IntKind.u64.wrap (b.toNat : Int) = (b.toNat : Int)) := Lib.hid (by have := b.toNat_lt; rw [IntKind.wrap_u64]; omega)
      have hsi : ((s : Nat) : Int) < 64 := by omega
      clear hf P2 Z2 hb2 HP2 hb
      refine wp_region_held_drew (S := fun _ => True) (by kernel_rfl) trivial (fun hHeld => ?_)
      refine wpAnyH_take (i := 0) (oi := ⟨some 10, _, _, _, _, _⟩) (v := ?_) rfl (by kernel_rfl) (by kernel_rfl) (by kernel_rfl) (fun _ _ _ h => h) (Or.inl ⟨by rfl, ?_⟩) (by assumption) ?_
      rotate_left
      · (intro w9 hSw; (try dsimp only at hSw); go_simp; try with_reducible rfl)
      try simp only [Act.put, List.setIfInBounds_toArray, List.set_cons_zero, List.set_cons_succ]
      refine wpAnyH_take (i := 1) (oi := ⟨some 11, _, _, _, _, _⟩) (v := .int .i64 (j : Int)) rfl (by kernel_rfl) (by kernel_rfl) (by kernel_rfl) (fun _ _ _ h => h) (Or.inl ⟨by rfl, ?_⟩) (by assumption) ?_
      · (intro w9 hSw; (try dsimp only at hSw); go_simp; rw [HJW.out])
      try simp only [Act.put, List.setIfInBounds_toArray, List.set_cons_zero, List.set_cons_succ]
      refine wpAnyH_take (i := 2) (oi := ⟨some 12, _, _, _, _, _⟩) (v := .pointer (some ⟨w.heap.size + 1, j, none⟩)) rfl (by kernel_rfl) (by kernel_rfl) (by kernel_rfl) (fun _ _ _ h => h) (Or.inl ⟨by rfl, ?_⟩) (by assumption) ?_
      · (intro w9 hSw; (try dsimp only at hSw); go_simp; (try (intro h9; exact absurd h9 (by omega))))
      try simp only [Act.put, List.setIfInBounds_toArray, List.set_cons_zero, List.set_cons_succ]
      refine wpAnyH_take (i := 4) (oi := ⟨some 14, _, _, _, _, _⟩) (v := ?_) rfl (by kernel_rfl) (by kernel_rfl) (by kernel_rfl) (fun _ _ _ h => h) (Or.inl ⟨by rfl, ?_⟩) (by assumption) ?_
      rotate_left
      · (intro w9 hSw; (try dsimp only at hSw); go_simp; try with_reducible rfl)
      try simp only [Act.put, List.setIfInBounds_toArray, List.set_cons_zero, List.set_cons_succ]
      refine wpAnyH_take (i := 5) (oi := ⟨some 15, _, _, _, _, _⟩) (v := ?_) rfl (by kernel_rfl) (by kernel_rfl) (by kernel_rfl) (fun _ _ _ h => h) (Or.inl ⟨by rfl, ?_⟩) (by assumption) ?_
      rotate_left
      · (intro w9 hSw; (try dsimp only at hSw); go_simp; try with_reducible rfl)
      try simp only [Act.put, List.setIfInBounds_toArray, List.set_cons_zero, List.set_cons_succ]
      refine wpAnyH_take (i := 6) (oi := ⟨some 16, _, _, _, _, _⟩) (v := uv b) rfl (by kernel_rfl) (by kernel_rfl) (by kernel_rfl) (fun _ _ _ h => h) (Or.inl ⟨by rfl, ?_⟩) (by assumption) ?_
      · (intro w9 hSw; have hx := HX.out w9; (try dsimp only at hSw); go_simp)
      try simp only [Act.put, List.setIfInBounds_toArray, List.set_cons_zero, List.set_cons_succ]
      refine wpAnyH_take (i := 7) (oi := ⟨some 17, _, _, _, _, _⟩) (v := qv b.toNat) rfl (by kernel_rfl) (by kernel_rfl) (by kernel_rfl) (fun _ _ _ h => h) (Or.inl ⟨by rfl, ?_⟩) (by assumption) ?_
      · (intro w9 hSw; (try dsimp only at hSw); go_simp; rw [HBW.out])
      try simp only [Act.put, List.setIfInBounds_toArray, List.set_cons_zero, List.set_cons_succ]
      refine wpAnyH_take (i := 8) (oi := ⟨some 18, _, _, _, _, _⟩) (v := ?_) rfl (by kernel_rfl) (by kernel_rfl) (by kernel_rfl) (fun _ _ _ h => h) (Or.inl ⟨by rfl, ?_⟩) (by assumption) ?_
      rotate_left
      · (intro w9 hSw; (try dsimp only at hSw); go_simp; try with_reducible rfl)
      try simp only [Act.put, List.setIfInBounds_toArray, List.set_cons_zero, List.set_cons_succ]
      refine wpAnyH_ready (rs := [3, 9]) (by kernel_rfl) (by simp) ?_
      refine AllReadyH.cons (o := ⟨some 13, _, _, _, _, _⟩) rfl (fun K9 hK9 => ?_) ?_
      · skip
        go_simp
        refine hK9.out _ _ ?_ (fun hHeld => ?_)
        · trivial
        clear hK9 K9
        try simp only [Act.put, List.setIfInBounds_toArray, List.set_cons_zero, List.set_cons_succ]
        refine wpAnyH_ready (rs := [9]) (by kernel_rfl) (by simp) ?_
        refine AllReadyH.cons (o := ⟨some 19, _, _, _, _, _⟩) rfl (fun K9 hK9 => ?_) AllReadyH.nil
        go_simp
        go_at_call 94
        refine (HS.out _).mono ?_
        rintro e w2 ⟨rfl, rfl⟩
        refine hK9.out _ _ ?_ (fun hHeld => ?_)
        · trivial
        clear hK9 K9
        try simp only [Act.put, List.setIfInBounds_toArray, List.set_cons_zero, List.set_cons_succ]
        refine wpAnyH_take (i := 10) (oi := ⟨some 20, _, _, _, _, _⟩) (v := qv v) rfl (by kernel_rfl) (by kernel_rfl) (by kernel_rfl) (fun _ _ _ h => h) (Or.inl ⟨by rfl, ?_⟩) (by assumption) ?_
        · (intro w9 hSw; (try dsimp only at hSw); go_simp; rw [HSH.out])
        try simp only [Act.put, List.setIfInBounds_toArray, List.set_cons_zero, List.set_cons_succ]
        refine wpAnyH_take (i := 11) (oi := ⟨some 21, _, _, _, _, _⟩) (v := qv y) rfl (by kernel_rfl) (by kernel_rfl) (by kernel_rfl) (fun _ _ _ h => h) (Or.inl ⟨by rfl, ?_⟩) (by assumption) ?_
        · (intro w9 hSw; have ho := HO.out; (try dsimp only at hSw); go_simp)
        try simp only [Act.put, List.setIfInBounds_toArray, List.set_cons_zero, List.set_cons_succ]
        refine wpAnyH_take (i := 12) (oi := ⟨some 22, _, _, _, _, _⟩) (v := .pointer (some ⟨w.heap.size + 1, j, none⟩)) rfl (by kernel_rfl) (by kernel_rfl) (by kernel_rfl) (fun _ _ _ h => h) (Or.inl ⟨by rfl, ?_⟩) (by assumption) ?_
        · (intro w9 hSw; (try dsimp only at hSw); go_simp; (try (intro h9; exact absurd h9 (by omega))))
        try simp only [Act.put, List.setIfInBounds_toArray, List.set_cons_zero, List.set_cons_succ]
        refine wpAnyH_ready (rs := [13]) (by kernel_rfl) (by simp) ?_
        refine AllReadyH.cons (o := ⟨none, _, _, _, _, _⟩) rfl (fun K9 hK9 => ?_) AllReadyH.nil
        go_simp
        refine hK9.out _ _ ?_ (fun hHeld => ?_)
        · trivial
        clear hK9 K9
        try simp only [Act.put]
        refine wpAnyH_done (by kernel_rfl) ?_ _
        obtain ⟨P3, Z3, hb3⟩ := HPZ.out
        generalize (wr.setCell ⟨w.heap.size + 1, j, none⟩ (qv y)).drew = w3 at P3 Z3 hb3
        clear hHeld hc1 hf1 HPZ P Z
        go_wp2_with fail
        exact ⟨⟨k + 1, by omega, by go_num, Lib.hid Z3, Lib.hid P3, hb3⟩, by simp [intOf]; omega⟩
      refine AllReadyH.cons (o := ⟨some 19, _, _, _, _, _⟩) rfl (fun K9 hK9 => ?_) AllReadyH.nil
      · skip
        go_simp
        go_at_call 94
        refine (HS.out _).mono ?_
        rintro e w2 ⟨rfl, rfl⟩
        refine hK9.out _ _ ?_ (fun hHeld => ?_)
        · trivial
        clear hK9 K9
        try simp only [Act.put, List.setIfInBounds_toArray, List.set_cons_zero, List.set_cons_succ]
        refine wpAnyH_take (i := 10) (oi := ⟨some 20, _, _, _, _, _⟩) (v := qv v) rfl (by kernel_rfl) (by kernel_rfl) (by kernel_rfl) (fun _ _ _ h => h) (Or.inl ⟨by rfl, ?_⟩) (by assumption) ?_
        · (intro w9 hSw; (try dsimp only at hSw); go_simp; rw [HSH.out])
        try simp only [Act.put, List.setIfInBounds_toArray, List.set_cons_zero, List.set_cons_succ]
        refine wpAnyH_ready (rs := [3]) (by kernel_rfl) (by simp) ?_
        refine AllReadyH.cons (o := ⟨some 13, _, _, _, _, _⟩) rfl (fun K9 hK9 => ?_) AllReadyH.nil
        go_simp
        refine hK9.out _ _ ?_ (fun hHeld => ?_)
        · trivial
        clear hK9 K9
        try simp only [Act.put, List.setIfInBounds_toArray, List.set_cons_zero, List.set_cons_succ]
        refine wpAnyH_take (i := 11) (oi := ⟨some 21, _, _, _, _, _⟩) (v := qv y) rfl (by kernel_rfl) (by kernel_rfl) (by kernel_rfl) (fun _ _ _ h => h) (Or.inl ⟨by rfl, ?_⟩) (by assumption) ?_
        · (intro w9 hSw; have ho := HO.out; (try dsimp only at hSw); go_simp)
        try simp only [Act.put, List.setIfInBounds_toArray, List.set_cons_zero, List.set_cons_succ]
        refine wpAnyH_take (i := 12) (oi := ⟨some 22, _, _, _, _, _⟩) (v := .pointer (some ⟨w.heap.size + 1, j, none⟩)) rfl (by kernel_rfl) (by kernel_rfl) (by kernel_rfl) (fun _ _ _ h => h) (Or.inl ⟨by rfl, ?_⟩) (by assumption) ?_
        · (intro w9 hSw; (try dsimp only at hSw); go_simp; (try (intro h9; exact absurd h9 (by omega))))
        try simp only [Act.put, List.setIfInBounds_toArray, List.set_cons_zero, List.set_cons_succ]
        refine wpAnyH_ready (rs := [13]) (by kernel_rfl) (by simp) ?_
        refine AllReadyH.cons (o := ⟨none, _, _, _, _, _⟩) rfl (fun K9 hK9 => ?_) AllReadyH.nil
        go_simp
        refine hK9.out _ _ ?_ (fun hHeld => ?_)
        · trivial
        clear hK9 K9
        try simp only [Act.put]
        refine wpAnyH_done (by kernel_rfl) ?_ _
        obtain ⟨P3, Z3, hb3⟩ := HPZ.out
        generalize (wr.setCell ⟨w.heap.size + 1, j, none⟩ (qv y)).drew = w3 at P3 Z3 hb3
        clear hHeld hc1 hf1 HPZ P Z
        go_wp2_with fail
        exact ⟨⟨k + 1, by omega, by go_num, Lib.hid Z3, Lib.hid P3, hb3⟩, by simp [intOf]; omega⟩
    · obtain rfl : k = n := by omega
      rw [HN.out] at P
      have HONE : Hid (∀ v ∈ (Pol (bn L)).toList, v.oneCell' = true) := Lib.hid (by intro v hv; simp at hv; rcases hv with rfl | rfl <;> rfl)
      go_wp2_with (first | (refine wpList_load_row rfl _ _ rfl _ rfl _ _ _ _ P.out Tryz.underlying109 rfl (plen (bn L)) ?_) | (refine wpList_store_mid rfl _ _ _ rfl _ _ (Pol (bn L)) rfl rfl (Z.out.there (by simp)) (plen (bn L)) (by kernel_rfl) ?_))
      have hW := Z.out.whole (Pol (bn L)).toList rfl
      refine bodyPost_ret (v := .agg (Pol (bn L))) (results_cell_row rfl _ _ _ _ _ _ _ rfl hW Tryz.underlying109 rfl (plen (bn L))) rfl ?_
      exact ⟨rfl, bw hb (by omega) _ _⟩
end Go.Proofs.YtcecjoodlmpgnaaGreat
/- The contract of the reference's Bit. -/
namespace Go.Proofs.YtcecjoodlmpgnaaGreat
open Go.RowKit

set_option maxRecDepth 100000 in
set_option maxHeartbeats 1000000 in
theorem rBit_any (s : List UInt8) (i n : Nat) (w : World) (hs : s.length = n) (hi : i / 8 < n) (hi2 : i < 1000) :
    Calls Tryz.prog 129 #[.string ⟨s.toArray⟩, .int .i64 (i : Int)] w fun e w' => e = .returned (.bool (co s i)) ∧ w = w' := by
  have hsz := size_of s
  rw [hs] at hsz
  have hix := gindex_of s (i / 8) ((i : Int) / 8) (by omega) (by omega)
  have HE : Hid (co s i = (((ub s (i / 8)).toNat / 2 ^ (7 - i % 8)) % 2 == 1)) := Lib.hid (by
    unfold co
    rw [Nat.testBit_eq_decide_div_mod_eq]
    rfl)
  have hb := (ub s (i / 8)).toNat_lt
  rw [HE.out]
  generalize ub s (i / 8) = b at hix hb ⊢
  have hm : ((i : Int) % 8) = ((i % 8 : Nat) : Int) := by omega
  have hr : i % 8 < 8 := Nat.mod_lt _ (by omega)
  generalize i % 8 = r at hm hr ⊢
  have HW : Hid (IntKind.i64.wrap (b.toNat : Int) = (b.toNat : Int)) := Lib.hid (by have h64 := IntKind.wrap_i64; rw [h64]; omega)
  clear HE hs hi
  go_enter Tryz.func129, Tryz.ntmps129
  go_wp2_with fail
  try rw [HW.out]
  go_loop [5, 6] (fun nv kv => ∃ d k q : Nat, r + d = k ∧ k ≤ 7 ∧ kv = .int .i64 k ∧ nv = .int .i64 q ∧ q < 256 ∧ Hid (q = b.toNat / 2 ^ d)) (fun _ kv => 7 - (intOf kv).toNat)
  case atStart => exact ⟨0, r, b.toNat, rfl, by omega, by rw [← hm], rfl, hb, Lib.hid (by simp)⟩
  case round =>
    clear hix HW hb hm
    obtain ⟨d, k, q, hd, hk, rfl, rfl, hq, HQ⟩ := hrel
    by_cases hlt : k < 7
    · have hkl : (k : Int) < 7 := by omega
      go_wp2_with fail
      exact ⟨⟨d + 1, k + 1, q / 2, by omega, by omega, by go_num, by go_num, by omega, Lib.hid (by rw [HQ.out, Nat.div_div_eq_div_mul, Nat.pow_succ])⟩, by simp [intOf]; omega⟩
    · obtain rfl : k = 7 := by omega
      obtain rfl : d = 7 - r := by omega
      go_wp2_with fail
      go_ret
      refine ⟨?_, rfl⟩
      rw [← HQ.out]
      have h2 := Nat.mod_two_eq_zero_or_one q
      rcases h2 with h2 | h2
      · have h3 : ((q : Int) % 2) = 0 := by omega
        simp [h2, h3]
      · have h3 : ((q : Int) % 2) = 1 := by omega
        simp [h2, h3]
end Go.Proofs.YtcecjoodlmpgnaaGreat
/- Rows of bools, and the contract of the reference's flip. -/
namespace Go.Proofs.YtcecjoodlmpgnaaGreat
open Go.RowKit

abbrev lv (b : Bool) : Value := .bool b
/-- A row of bools that can be read: so many, told by their places. -/
def BR (w : World) (A : Option Addr) (n : Nat) (f : Nat → Bool) : Prop := ∃ g, A = some ⟨g, 0, none⟩ ∧ ∀ j, j < n → w.cell? ⟨g, j, none⟩ = some (lv (f j))
theorem BR.later {w w' : World} {A : Option Addr} {n : Nat} {f : Nat → Bool} (h : BR w A n f) (hn : 0 < n) (hb : Below w.heap.size w w') : BR w' A n f := by
  obtain ⟨g, e, h⟩ := h
  have := h 0 hn
  exact ⟨g, e, fun j hj => cell_later hb (h j hj)⟩
theorem BR.less {w : World} {A : Option Addr} {n m : Nat} {f : Nat → Bool} (h : BR w A n f) (hm : m ≤ n) : BR w A m f := by
  obtain ⟨g, e, h⟩ := h
  exact ⟨g, e, fun j hj => h j (by omega)⟩
def fb (n : Nat) (f : Nat → Bool) : List Value := (List.range n).map fun j => lv (f j)
theorem fb_len (n : Nat) (f : Nat → Bool) : (fb n f).length = n := by simp [fb]
theorem fb_at {n j : Nat} (f : Nat → Bool) (h : j < n) : (fb n f)[j]? = some (lv (f j)) := by simp [fb, h]
theorem fb_succ (n : Nat) (f : Nat → Bool) : fb (n + 1) f = fb n f ++ [lv (f n)] := by simp [fb, List.range_succ]
theorem infoL : (Tryz.prog.info? 4).map (fun i => (i.zero, i.size, i.bytes)) = some (some (.bool false), 1, 1) := by kernel_rfl
theorem own_BR {W : World} {base g c n : Nat} {f : Nat → Bool} (h : W.ownsRow base 4 1 (.slice (some ⟨g, 0, none⟩) n c) n (fb n f)) : BR W (some ⟨g, 0, none⟩) n f := ⟨g, rfl, fun j hj => by rw [h.cellAt j (by omega), fb_at f hj]⟩
theorem own_BRblk {W : World} {base g c n : Nat} {f : Nat → Bool} (h : W.ownsRow base 4 1 (.slice (some ⟨g, 0, none⟩) n c) n (fb n f)) : base ≤ g ∧ n ≤ c ∧ ∃ cs, Blk W g 4 cs ∧ ∀ j, j < n → cs[j]? = some (lv (f j)) := by
  have hc := fun j hj => h.cellAt j hj
  rcases h.2 with ⟨hv, _⟩ | ⟨g', cap, cur, hv, hb, hh, hn, _⟩
  · cases hv
  · cases hv
    refine ⟨hb, hn, cur, hh, fun j hj => ?_⟩
    have h1 := hc j (by omega)
    rw [cell_of_row _ _ _ _ _ _ hh, fb_at f hj] at h1
    exact h1
theorem gown_nil {W : World} {g : Nat} {t : TypeId} {base size : Nat} (h : Blk W g t #[]) (hb : base ≤ g) : W.ownsRow base t size (.slice (some ⟨g, 0, none⟩) 0 0) 0 [] :=
  ⟨by simp, .inr ⟨g, 0, #[], rfl, hb, h, Nat.le_refl _, by unfold maxLen; omega, by simp, by simp⟩⟩
theorem set_flip {cs : Array Value} {n i : Nat} {f : Nat → Bool} (h : ∀ j, j < n → cs[j]? = some (lv (f j))) (j : Nat) (hj : j < n) : (cs.setIfInBounds i (lv (!f i)))[j]? = some (lv (flipF f i j)) := by
  unfold flipF
  by_cases e : j = i
  · subst e
    have hl : j < cs.size := by
      have := h j hj
      exact (Array.getElem?_eq_some_iff.1 this).1
    rw [Array.getElem?_setIfInBounds_self_of_lt hl]
    simp
  · rw [Array.getElem?_setIfInBounds_ne (by omega), h j hj]
    simp [e]

set_option maxRecDepth 100000 in
set_option maxHeartbeats 2000000 in
theorem flip_any (A : Option Addr) (c m i : Nat) (f : Nat → Bool) (w : World) (hm : m ≤ 1000) (hi : i < m + 1) (h : BR w A (m + 1) f) :
    Calls Tryz.prog 108 #[.slice A (m + 1) c, .int .i64 (i : Int)] w fun e w' => ∃ g c', e = .returned (.slice (some ⟨g, 0, none⟩) (m + 1) c') ∧ BR w' (some ⟨g, 0, none⟩) (m + 1) (flipF f i) ∧ m + 1 ≤ c' ∧ Below w.heap.size w w' := by
  obtain ⟨i0, hi0, hz0, hz1, hz2⟩ := info_parts infoL
  obtain ⟨a, rfl, hA⟩ := h
  have ho0 := gown_nil (size := 1) (Blk.new w 4 #[]) (Nat.le_refl _)
  have hnews : ∀ j u, (fb (m + 1) f)[j]? = some u → (w.alloc (.cells #[] 4)).cell? ((⟨a, 0, none⟩ : Addr).add j) = some u := by
    intro j u hu
    have hj : j < m + 1 := by
      have := (List.getElem?_eq_some_iff.1 hu).1
      rwa [fb_len] at this
    rw [fb_at f hj] at hu
    cases hu
    rw [Addr.add_mid, Nat.zero_add]
    exact cell_later (ba (Below.refl _ _) _) (hA j hj)
  have HFL := Lib.hid (fb_len (m + 1) f)
  have HO0 := Lib.hid ho0
  have HNW := Lib.hid hnews
  have HONE : Hid (∀ v ∈ fb (m + 1) f, v.oneCell' = true) := Lib.hid (by
    intro v hv
    obtain ⟨j, _, rfl⟩ := List.mem_map.1 hv
    rfl)
  clear hA ho0 hnews
  go_enter Tryz.func108, Tryz.ntmps108
  go_upto_region 3 with (at_builtin; refine wpList_append_own _ rfl _ _ 144 rfl w.heap.size 4 i0 (.bool false) 1 1 Tryz.underlying144 hi0 hz0 hz1 hz2 rfl (by decide) _ _ _ rfl HO0.out ⟨a, 0, none⟩ (m + 1) c (fb (m + 1) f) rfl (by rw [Nat.mul_one]; exact HFL.out) HNW.out HONE.out (by unfold maxLen; omega) (by omega) (by simp) ?_; intro v' w6 hown' hgrow _)
  rw [List.nil_append, Nat.zero_add] at hown'
  obtain ⟨g, c', rfl⟩ := ownsRow_succ hown'
  obtain ⟨hg, hc, cs, hblk, hat⟩ := own_BRblk hown'
  have hcell := (hblk.cell i).trans (hat i hi)
  have hfr := hblk.frozen i
  have hb : Below w.heap.size w w6 := (ba (Below.refl w.heap.size w) (.cells #[] 4)).grown hgrow (by simp) (fun k e => by cases e; simp)
  have HR : Hid (BR (w6.setCell ⟨g, i, none⟩ (lv (!f i))) (some ⟨g, 0, none⟩) (m + 1) (flipF f i) ∧ Below w.heap.size w (w6.setCell ⟨g, i, none⟩ (lv (!f i)))) := Lib.hid ⟨⟨g, rfl, fun j hj => ((hblk.set_ i (lv (!f i))).cell j).trans (set_flip hat j hj)⟩, bs hb hg _⟩
  have HC := Lib.hid hc
  generalize f i = b at hcell HR
  have hii : (i : Int) < ((m + 1 : Nat) : Int) := by omega
  clear hown' hgrow hblk hat hb HFL HO0 HNW HONE hg hc
  go_wp2_with fail
  go_ret
  exact ⟨g, c', rfl, HR.out.1, HC.out, HR.out.2⟩
end Go.Proofs.YtcecjoodlmpgnaaGreat
