/- How many bits of a word are 1: the sums in parallel are the number. Nothing of any function. -/
import Derived.Test.YthknelpcdoebiaaZMath
namespace Go.Proofs.Ythknelpcdoebiaa

/-- A byte repeated. -/
def zrep : Nat → Nat → Nat
  | 0, _ => 0
  | n + 1, c => c + 256 * zrep n c
/-- A word's first so many bytes, each told anew. -/
def zeach : Nat → (Nat → Nat) → Nat → Nat
  | 0, _, _ => 0
  | n + 1, f, x => f (x % 256) + 256 * zeach n f (x / 256)
theorem zrep_lt (n c : Nat) (h : c < 256) : zrep n c < 256 ^ n := by
  induction n with
  | zero => simp [zrep]
  | succ n ih => rw [zrep, Nat.pow_succ]; omega
theorem zand_split (a b c d : Nat) (ha : a < 256) (hc : c < 256) : (a + 256 * b) &&& (c + 256 * d) = (a &&& c) + 256 * (b &&& d) := by
  have h256 : 256 = 2 ^ 8 := by decide
  have hac : a &&& c < 256 := Nat.lt_of_le_of_lt Nat.and_le_left ha
  apply Nat.eq_of_testBit_eq
  intro i
  rw [Nat.testBit_and, Nat.add_comm a, Nat.add_comm c, Nat.add_comm (a &&& c)]
  rw [h256] at ha hc hac ⊢
  rw [Nat.testBit_two_pow_mul_add _ ha, Nat.testBit_two_pow_mul_add _ hc, Nat.testBit_two_pow_mul_add _ hac]
  by_cases h : i < 8
  · simp [h]
  · simp [h]
theorem zeach_lt (n : Nat) (f : Nat → Nat) (hf : ∀ c, c < 256 → f c < 256) (x : Nat) : zeach n f x < 256 ^ n := by
  induction n generalizing x with
  | zero => simp [zeach]
  | succ n ih => rw [zeach, Nat.pow_succ]; have := hf (x % 256) (Nat.mod_lt _ (by omega)); have := ih (x / 256); omega
theorem zeach_comp (n : Nat) (f g : Nat → Nat) (hf : ∀ c, c < 256 → f c < 256) (x : Nat) : zeach n g (zeach n f x) = zeach n (fun c => g (f c)) x := by
  induction n generalizing x with
  | zero => rfl
  | succ n ih =>
    have h := hf (x % 256) (Nat.mod_lt _ (by omega))
    rw [zeach, zeach, zeach]
    rw [show (f (x % 256) + 256 * zeach n f (x / 256)) % 256 = f (x % 256) by omega, show (f (x % 256) + 256 * zeach n f (x / 256)) / 256 = zeach n f (x / 256) by omega, ih]
theorem zeach_ext (n : Nat) (f g : Nat → Nat) (h : ∀ c, c < 256 → f c = g c) (x : Nat) : zeach n f x = zeach n g x := by
  induction n generalizing x with
  | zero => rfl
  | succ n ih => rw [zeach, zeach, ih, h _ (Nat.mod_lt _ (by omega))]

theorem zs1_tab : ∀ c, c < 256 → ∀ b, b < 2 → (c / 2 + 128 * b) &&& 85 = (c / 2 &&& 85) := by decide +kernel
theorem zs2_tab : ∀ c, c < 256 → ∀ b, b < 4 → (c / 4 + 64 * b) &&& 51 = (c / 4 &&& 51) := by decide +kernel
/-- Each byte's first two steps. -/
def zs1 (c : Nat) : Nat := (c / 2 &&& 85) + (c &&& 85)
def zs2 (c : Nat) : Nat := (c / 4 &&& 51) + (c &&& 51)
def zs3 (c : Nat) : Nat := (c / 16 + c) % 16
theorem zs1_lt : ∀ c, c < 256 → zs1 c < 256 := by decide +kernel
theorem zs2_lt : ∀ c, c < 256 → zs2 c < 256 := by decide +kernel
theorem zs12 : ∀ c, c < 256 → zs2 (zs1 c) % 16 ≤ 4 ∧ zs2 (zs1 c) / 16 ≤ 4 := by decide +kernel
theorem zs123 : ∀ c, c < 256 → zs3 (zs2 (zs1 c)) = zcnt 8 c.testBit := by decide +kernel

theorem zstep1 (n : Nat) (x : Nat) (h : x < 256 ^ n) : (x / 2 &&& zrep n 85) + (x &&& zrep n 85) = zeach n zs1 x := by
  induction n generalizing x with
  | zero => simp [zrep, zeach]
  | succ n ih =>
    have h2 : x / 256 < 256 ^ n := by rw [Nat.pow_succ] at h; omega
    have e1 : x / 2 = (x % 256 / 2 + 128 * (x / 256 % 2)) + 256 * (x / 256 / 2) := by omega
    have e2 : x = x % 256 + 256 * (x / 256) := by omega
    have hc : x % 256 < 256 := Nat.mod_lt _ (by omega)
    have hb : x / 256 % 2 < 2 := Nat.mod_lt _ (by omega)
    rw [zrep, zeach, ← ih (x / 256) h2, e1, zand_split _ _ _ _ (by omega) (by omega), zs1_tab _ hc _ hb]
    conv => lhs; rhs; rw [e2]
    rw [zand_split _ _ _ _ hc (by omega)]
    unfold zs1
    omega
theorem zstep2 (n : Nat) (x : Nat) (h : x < 256 ^ n) : (x / 4 &&& zrep n 51) + (x &&& zrep n 51) = zeach n zs2 x := by
  induction n generalizing x with
  | zero => simp [zrep, zeach]
  | succ n ih =>
    have h2 : x / 256 < 256 ^ n := by rw [Nat.pow_succ] at h; omega
    have e1 : x / 4 = (x % 256 / 4 + 64 * (x / 256 % 4)) + 256 * (x / 256 / 4) := by omega
    have e2 : x = x % 256 + 256 * (x / 256) := by omega
    have hc : x % 256 < 256 := Nat.mod_lt _ (by omega)
    have hb : x / 256 % 4 < 4 := Nat.mod_lt _ (by omega)
    rw [zrep, zeach, ← ih (x / 256) h2, e1, zand_split _ _ _ _ (by omega) (by omega), zs2_tab _ hc _ hb]
    conv => lhs; rhs; rw [e2]
    rw [zand_split _ _ _ _ hc (by omega)]
    unfold zs2
    omega
/-- Bytes of which both halves are at most 4. -/
def zok : Nat → Nat → Prop
  | 0, x => x = 0
  | n + 1, x => (x % 256 % 16 ≤ 4 ∧ x % 256 / 16 ≤ 4) ∧ zok n (x / 256)
theorem zok_each (n : Nat) (f : Nat → Nat) (hf : ∀ c, c < 256 → f c < 256) (h : ∀ c, c < 256 → f c % 16 ≤ 4 ∧ f c / 16 ≤ 4) (x : Nat) : zok n (zeach n f x) := by
  induction n generalizing x with
  | zero => rfl
  | succ n ih =>
    have h1 := hf (x % 256) (Nat.mod_lt _ (by omega))
    have h2 := h (x % 256) (Nat.mod_lt _ (by omega))
    rw [zeach]
    refine ⟨?_, ?_⟩
    · rw [show (f (x % 256) + 256 * zeach n f (x / 256)) % 256 = f (x % 256) by omega]; exact h2
    · rw [show (f (x % 256) + 256 * zeach n f (x / 256)) / 256 = zeach n f (x / 256) by omega]; exact ih _
theorem zand15 (x : Nat) : x &&& 15 = x % 16 := Nat.and_two_pow_sub_one_eq_mod x 4
theorem zstep3 (n : Nat) (x : Nat) (h : zok n x) : (x / 16 + x) &&& zrep n 15 = zeach n zs3 x := by
  induction n generalizing x with
  | zero => simp [zrep, zeach]
  | succ n ih =>
    obtain ⟨⟨h1, h2⟩, h3⟩ := h
    have e1 : x / 16 + x = (x % 256 / 16 + 16 * (x / 256 % 16) + x % 256) + 256 * (x / 256 / 16 + x / 256) := by omega
    have hn : x / 256 % 16 ≤ 4 := by
      cases n with
      | zero => rw [zok] at h3; rw [h3]; decide
      | succ n => have := h3.1.1; omega
    rw [zrep, zeach, ← ih (x / 256) h3, e1, zand_split _ _ _ _ (by omega) (by omega), zand15]
    unfold zs3
    congr 1
    omega
/-- The bytes' sum. -/
def zsum : Nat → (Nat → Nat) → Nat → Nat
  | 0, _, _ => 0
  | n + 1, f, x => f (x % 256) + zsum n f (x / 256)
theorem zsum_cnt (n : Nat) (x : Nat) : zsum n (fun c => zcnt 8 c.testBit) x = zcnt (8 * n) x.testBit := by
  induction n generalizing x with
  | zero => rfl
  | succ n ih =>
    rw [zsum, ih, show 8 * (n + 1) = 8 + 8 * n by omega, zcnt_add]
    congr 1
    · refine zcnt_ext fun i hi => ?_
      rw [show 256 = 2 ^ 8 by decide, Nat.testBit_mod_two_pow]
      simp [hi]
    · refine zcnt_ext fun i _ => ?_
      rw [show 256 = 2 ^ 8 by decide, Nat.testBit_div_two_pow, Nat.add_comm]
theorem zadd_up (p0 p1 p2 p3 p4 p5 p6 p7 y : Nat) (h0 : p0 ≤ 8) (h1 : p1 ≤ 8) (h2 : p2 ≤ 8) (h3 : p3 ≤ 8) (h4 : p4 ≤ 8) (h5 : p5 ≤ 8) (h6 : p6 ≤ 8) (h7 : p7 ≤ 8)
    (hy : y = p0 + 256 * (p1 + 256 * (p2 + 256 * (p3 + 256 * (p4 + 256 * (p5 + 256 * (p6 + 256 * (p7 + 256 * 0)))))))) :
    ∃ a b c, y + y / 256 = a ∧ a + a / 65536 = b ∧ b + b / 4294967296 = c ∧ c < 9223372036854775808 ∧ c % 128 = p0 + (p1 + (p2 + (p3 + (p4 + (p5 + (p6 + (p7 + 0))))))) := by
  refine ⟨_, _, _, rfl, rfl, rfl, ?_, ?_⟩
  · omega
  · have ea : y + y / 256 = (p0 + p1) + 256 * ((p1 + p2) + 256 * ((p2 + p3) + 256 * ((p3 + p4) + 256 * ((p4 + p5) + 256 * ((p5 + p6) + 256 * ((p6 + p7) + 256 * p7)))))) := by omega
    rw [ea]
    have eb : ∀ q0 q1 q2 q3 q4 q5 q6 q7 : Nat, q0 ≤ 16 → q1 ≤ 16 → q2 ≤ 16 → q3 ≤ 16 → q4 ≤ 16 → q5 ≤ 16 → q6 ≤ 16 → q7 ≤ 16 →
        (q0 + 256 * (q1 + 256 * (q2 + 256 * (q3 + 256 * (q4 + 256 * (q5 + 256 * (q6 + 256 * q7)))))))
          + (q0 + 256 * (q1 + 256 * (q2 + 256 * (q3 + 256 * (q4 + 256 * (q5 + 256 * (q6 + 256 * q7))))))) / 65536
        = (q0 + q2) + 256 * ((q1 + q3) + 256 * ((q2 + q4) + 256 * ((q3 + q5) + 256 * ((q4 + q6) + 256 * ((q5 + q7) + 256 * (q6 + 256 * q7)))))) := by
      intro q0 q1 q2 q3 q4 q5 q6 q7 _ _ _ _ _ _ _ _
      omega
    have ec : ∀ q0 q1 q2 q3 q4 q5 q6 q7 : Nat, q0 ≤ 32 → q1 ≤ 32 → q2 ≤ 32 → q3 ≤ 32 → q4 ≤ 32 → q5 ≤ 32 → q6 ≤ 32 → q7 ≤ 32 →
        ((q0 + 256 * (q1 + 256 * (q2 + 256 * (q3 + 256 * (q4 + 256 * (q5 + 256 * (q6 + 256 * q7)))))))
          + (q0 + 256 * (q1 + 256 * (q2 + 256 * (q3 + 256 * (q4 + 256 * (q5 + 256 * (q6 + 256 * q7))))))) / 4294967296) % 128
        = q0 + q4 := by
      intro q0 q1 q2 q3 q4 q5 q6 q7 _ _ _ _ _ _ _ _
      have e1 : (q0 + 256 * (q1 + 256 * (q2 + 256 * (q3 + 256 * (q4 + 256 * (q5 + 256 * (q6 + 256 * q7))))))) / 4294967296 = q4 + 256 * (q5 + 256 * (q6 + 256 * q7)) := by omega
      rw [e1]
      omega
    rw [eb _ _ _ _ _ _ _ _ (by omega) (by omega) (by omega) (by omega) (by omega) (by omega) (by omega) (by omega)]
    rw [ec _ _ _ _ _ _ _ _ (by omega) (by omega) (by omega) (by omega) (by omega) (by omega) (by omega) (by omega)]
    omega
/-- What the function answers. -/
theorem zpop (x : Nat) (hx : x < Z64) : ∃ x1 x2 x3 a b c, (x / 2 &&& 6148914691236517205) + (x &&& 6148914691236517205) = x1 ∧ (x1 / 4 &&& 3689348814741910323) + (x1 &&& 3689348814741910323) = x2 ∧
    (x2 / 16 + x2) &&& 1085102592571150095 = x3 ∧ x3 + x3 / 256 = a ∧ a + a / 65536 = b ∧ b + b / 4294967296 = c ∧ x1 < Z64 ∧ x2 < 9223372036854775808 ∧ c < 9223372036854775808 ∧ c % 128 = zcnt 64 x.testBit := by
  have hx8 : x < 256 ^ 8 := by rw [show 256 ^ 8 = Z64 by decide]; exact hx
  have e1 : (x / 2 &&& 6148914691236517205) + (x &&& 6148914691236517205) = zeach 8 zs1 x := zstep1 8 x hx8
  have l1 := zeach_lt 8 zs1 zs1_lt x
  have e2 : (zeach 8 zs1 x / 4 &&& 3689348814741910323) + (zeach 8 zs1 x &&& 3689348814741910323) = zeach 8 zs2 (zeach 8 zs1 x) := zstep2 8 _ l1
  rw [zeach_comp 8 zs1 zs2 zs1_lt] at e2
  have hlt : ∀ c, c < 256 → zs2 (zs1 c) < 256 := fun c hc => zs2_lt _ (zs1_lt c hc)
  have l2 := zeach_lt 8 (fun c => zs2 (zs1 c)) hlt x
  have hok := zok_each 8 (fun c => zs2 (zs1 c)) hlt zs12 x
  have e3 : (zeach 8 (fun c => zs2 (zs1 c)) x / 16 + zeach 8 (fun c => zs2 (zs1 c)) x) &&& 1085102592571150095 = zeach 8 zs3 (zeach 8 (fun c => zs2 (zs1 c)) x) := zstep3 8 _ hok
  rw [zeach_comp 8 _ zs3 hlt, zeach_ext 8 (fun c => zs3 (zs2 (zs1 c))) (fun c => zcnt 8 c.testBit) zs123] at e3
  have l3 : zeach 8 (fun c => zs2 (zs1 c)) x < 9223372036854775808 := by
    have h7 := hok.2.2.2.2.2.2.2.1
    have : 256 ^ 8 = 18446744073709551616 := by decide
    omega
  obtain ⟨a, b, c, ha, hb, hc, hlc, hm⟩ := zadd_up _ _ _ _ _ _ _ _ (zeach 8 (fun c => zcnt 8 c.testBit) x) (zcnt_le 8 _) (zcnt_le 8 _) (zcnt_le 8 _) (zcnt_le 8 _) (zcnt_le 8 _) (zcnt_le 8 _) (zcnt_le 8 _) (zcnt_le 8 _) rfl
  refine ⟨_, _, _, a, b, c, e1, e2, e3, ha, hb, hc, ?_, l3, hlc, ?_⟩
  · rw [show Z64 = 256 ^ 8 by decide]; exact l1
  · rw [hm, ← zsum_cnt 8 x]
    rfl
end Go.Proofs.Ythknelpcdoebiaa
