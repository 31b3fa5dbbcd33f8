/- The contracts of the roots: what is behind the point, by trying one bit behind the other. -/
import Derived.Test.YtilcondnpoinkaaHMul
namespace Go.Proofs.Ytilcondnpoinkaa
open Go.RowKit

/-- A root so far, by so many of its 35 bits. -/
def rootN (f : Nat → Bool) : Nat → Nat
  | 0 => 0
  | k + 1 => if f (rootN f k ||| 2 ^ (34 - k)) then rootN f k ||| 2 ^ (34 - k) else rootN f k
theorem rootN_lt (f : Nat → Bool) (k : Nat) : rootN f k < 34359738368 := by
  induction k with
  | zero => exact (by decide : (0 : Nat) < 34359738368)
  | succ k ih =>
    have h : 2 ^ (34 - k) < 2 ^ 35 := Nat.pow_lt_pow_right (by omega) (by omega)
    have h2 : rootN f k ||| 2 ^ (34 - k) < 2 ^ 35 := Nat.or_lt_two_pow ih h
    rw [rootN]
    split
    · exact h2
    · exact ih
/-- What is behind the point of the square root of p, times 2^32. -/
def rootS (p : Nat) : Nat := rootN (lessS p) 35 % 4294967296
/-- .. and of the cube root. -/
def rootC (p : Nat) : Nat := rootN (lessC p) 35 % 4294967296
theorem bit_next (k : Nat) : 2 ^ 34 / 2 ^ k / 2 = 2 ^ 34 / 2 ^ (k + 1) := by rw [Nat.div_div_eq_div_mul, ← Nat.pow_succ]
theorem bit_is (k : Nat) (hk : k < 35) : 2 ^ 34 / 2 ^ k = 2 ^ (34 - k) := Nat.pow_div (by omega) (by omega)

set_option maxRecDepth 100000 in
set_option maxHeartbeats 2000000 in
theorem behindS_any (p b : Nat) (hp : (p : Int) < 4294967296) (w : World) (hc : w.cell? ⟨b, 0, none⟩ = some (.int .u32 (p : Int))) :
    Calls Try.prog 70 #[.func (.func 73) #[] #[.pointer (some ⟨b, 0, none⟩)]] w fun e w' => e = .returned (.int .u32 ((rootS p : Nat) : Int)) ∧ w = w' := by
  have HC := Lib.hid hc
  have HP := Lib.hid hp
  clear hc hp
  go_enter Try.func70, Try.ntmps70
  go_wp2_with fail
  go_loop [3, 4] (fun rv bv => ∃ k R B : Nat, k ≤ 35 ∧ rv = .int .u64 (R : Int) ∧ bv = .int .u64 (B : Int) ∧ Hid (R = rootN (lessS p) k) ∧ Hid (B = 2 ^ 34 / 2 ^ k)) (fun _ bv => (intOf bv).toNat)
  case atStart => exact ⟨0, 0, 17179869184, by omega, rfl, rfl, Lib.hid rfl, Lib.hid rfl⟩
  case round =>
    obtain ⟨k, R, B, hk, rfl, rfl, HR, HB⟩ := hrel
    by_cases hlt : k < 35
    · have hB : B = 2 ^ (34 - k) := by rw [HB.out, bit_is k hlt]
      have hB0 : 0 < B := by rw [hB]; exact Nat.pow_pos (by omega)
      have hB1 : B < 2 ^ 35 := by rw [hB]; exact Nat.pow_lt_pow_right (by omega) (by omega)
      have hR1 : R < 2 ^ 35 := by rw [HR.out]; exact rootN_lt _ _
      have hor := bits_or_u64_nat R B (by omega) (by omega)
      have hO1 : R ||| B < 2 ^ 35 := Nat.or_lt_two_pow hR1 hB1
      obtain ⟨O, hO⟩ : ∃ O, R ||| B = O := ⟨_, rfl⟩
      rw [hO] at hor hO1
      have hB2 : (B : Int) < 34359738368 := by omega
      have hR2 : (R : Int) < 34359738368 := by omega
      have hO2 : O < 34359738368 := by omega
      have HS : Hid (rootN (lessS p) (k + 1) = if lessS p O then O else R) := Lib.hid (by rw [rootN, ← HR.out, ← hB, hO])
      have HN : Hid (B / 2 = 2 ^ 34 / 2 ^ (k + 1)) := Lib.hid (by rw [HB.out]; exact bit_next k)
      clear hB hO hB1 hR1 hO1
      by_cases hf : lessS p O = true
      · have HF := Lib.hid hf
        have HM := Lib.hid (lessS_any p O HP.out hO2 b w HC.out)
        rw [hf] at HM
        clear hf hO2
        go_wp2_with ((with_reducible refine HM.out.mono ?_); rintro e w' ⟨rfl, rfl⟩)
        exact ⟨⟨k + 1, O, B / 2, by omega, rfl, by go_num, Lib.hid (by rw [HS.out, if_pos HF.out]), HN⟩, by simp [intOf]; omega⟩
      · have hf' : lessS p O = false := by simpa using hf
        have HF := Lib.hid hf
        have HM := Lib.hid (lessS_any p O HP.out hO2 b w HC.out)
        rw [hf'] at HM
        clear hf hf' hO2
        go_wp2_with ((with_reducible refine HM.out.mono ?_); rintro e w' ⟨rfl, rfl⟩)
        exact ⟨⟨k + 1, R, B / 2, by omega, rfl, by go_num, Lib.hid (by rw [HS.out, if_neg HF.out]), HN⟩, by simp [intOf]; omega⟩
    · obtain rfl : k = 35 := by omega
      obtain rfl : B = 0 := HB.out
      have hR1 : R < 2 ^ 35 := by rw [HR.out]; exact rootN_lt _ _
      have HW : Hid (((rootS p : Nat) : Int) = (R : Int) % 4294967296) := Lib.hid (by rw [rootS, ← HR.out]; simp)
      go_wp2
      go_ret
      rw [HW.out]
      exact ⟨rfl, rfl⟩

set_option maxRecDepth 100000 in
set_option maxHeartbeats 1000000 in
theorem sqrt_any (p : Nat) (hp : (p : Int) < 4294967296) (w : World) :
    Calls Try.prog 59 #[.int .u32 (p : Int)] w fun e w' => e = .returned (.int .u32 ((rootS p : Nat) : Int)) ∧ Below w.heap.size w w' := by
  go_enter Try.func59, Try.ntmps59
  go_wp2_with ((refine (behindS_any p _ hp _ (by simp)).mono ?_); rintro e w' ⟨rfl, rfl⟩)
  go_ret
  exact ⟨rfl, ba (Below.refl _ _) _⟩

set_option maxRecDepth 100000 in
set_option maxHeartbeats 2000000 in
theorem behindC_any (p b : Nat) (hp : (p : Int) < 4294967296) (w : World) (hc : w.cell? ⟨b, 0, none⟩ = some (.int .u32 (p : Int))) :
    Calls Try.prog 70 #[.func (.func 71) #[] #[.pointer (some ⟨b, 0, none⟩)]] w fun e w' => e = .returned (.int .u32 ((rootC p : Nat) : Int)) ∧ w = w' := by
  have HC := Lib.hid hc
  have HP := Lib.hid hp
  clear hc hp
  go_enter Try.func70, Try.ntmps70
  go_wp2_with fail
  go_loop [3, 4] (fun rv bv => ∃ k R B : Nat, k ≤ 35 ∧ rv = .int .u64 (R : Int) ∧ bv = .int .u64 (B : Int) ∧ Hid (R = rootN (lessC p) k) ∧ Hid (B = 2 ^ 34 / 2 ^ k)) (fun _ bv => (intOf bv).toNat)
  case atStart => exact ⟨0, 0, 17179869184, by omega, rfl, rfl, Lib.hid rfl, Lib.hid rfl⟩
  case round =>
    obtain ⟨k, R, B, hk, rfl, rfl, HR, HB⟩ := hrel
    by_cases hlt : k < 35
    · have hB : B = 2 ^ (34 - k) := by rw [HB.out, bit_is k hlt]
      have hB0 : 0 < B := by rw [hB]; exact Nat.pow_pos (by omega)
      have hB1 : B < 2 ^ 35 := by rw [hB]; exact Nat.pow_lt_pow_right (by omega) (by omega)
      have hR1 : R < 2 ^ 35 := by rw [HR.out]; exact rootN_lt _ _
      have hor := bits_or_u64_nat R B (by omega) (by omega)
      have hO1 : R ||| B < 2 ^ 35 := Nat.or_lt_two_pow hR1 hB1
      obtain ⟨O, hO⟩ : ∃ O, R ||| B = O := ⟨_, rfl⟩
      rw [hO] at hor hO1
      have hB2 : (B : Int) < 34359738368 := by omega
      have hR2 : (R : Int) < 34359738368 := by omega
      have hO2 : O < 34359738368 := by omega
      have HS : Hid (rootN (lessC p) (k + 1) = if lessC p O then O else R) := Lib.hid (by rw [rootN, ← HR.out, ← hB, hO])
      have HN : Hid (B / 2 = 2 ^ 34 / 2 ^ (k + 1)) := Lib.hid (by rw [HB.out]; exact bit_next k)
      clear hB hO hB1 hR1 hO1
      by_cases hf : lessC p O = true
      · have HF := Lib.hid hf
        have HM := Lib.hid (lessC_any p O HP.out hO2 b w HC.out)
        rw [hf] at HM
        clear hf hO2
        go_wp2_with ((with_reducible refine HM.out.mono ?_); rintro e w' ⟨rfl, rfl⟩)
        exact ⟨⟨k + 1, O, B / 2, by omega, rfl, by go_num, Lib.hid (by rw [HS.out, if_pos HF.out]), HN⟩, by simp [intOf]; omega⟩
      · have hf' : lessC p O = false := by simpa using hf
        have HF := Lib.hid hf
        have HM := Lib.hid (lessC_any p O HP.out hO2 b w HC.out)
        rw [hf'] at HM
        clear hf hf' hO2
        go_wp2_with ((with_reducible refine HM.out.mono ?_); rintro e w' ⟨rfl, rfl⟩)
        exact ⟨⟨k + 1, R, B / 2, by omega, rfl, by go_num, Lib.hid (by rw [HS.out, if_neg HF.out]), HN⟩, by simp [intOf]; omega⟩
    · obtain rfl : k = 35 := by omega
      obtain rfl : B = 0 := HB.out
      have hR1 : R < 2 ^ 35 := by rw [HR.out]; exact rootN_lt _ _
      have HW : Hid (((rootC p : Nat) : Int) = (R : Int) % 4294967296) := Lib.hid (by rw [rootC, ← HR.out]; simp)
      go_wp2
      go_ret
      rw [HW.out]
      exact ⟨rfl, rfl⟩

set_option maxRecDepth 100000 in
set_option maxHeartbeats 1000000 in
theorem cbrt_any (p : Nat) (hp : (p : Int) < 4294967296) (w : World) :
    Calls Try.prog 58 #[.int .u32 (p : Int)] w fun e w' => e = .returned (.int .u32 ((rootC p : Nat) : Int)) ∧ Below w.heap.size w w' := by
  go_enter Try.func58, Try.ntmps58
  go_wp2_with ((refine (behindC_any p _ hp _ (by simp)).mono ?_); rintro e w' ⟨rfl, rfl⟩)
  go_ret
  exact ⟨rfl, ba (Below.refl _ _) _⟩
end Go.Proofs.Ytilcondnpoinkaa
