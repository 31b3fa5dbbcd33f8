/- The contracts of math/bits.RotateLeft32 and of the code's ror. -/
import Derived.Test.YtilcondnpoinkaaHRor
import Derived.Laws.Bits64b
namespace Go.Proofs.Ytilcondnpoinkaa
open Go.RowKit

theorem neg_mask (n : Nat) (h1 : 1 ≤ n) (h2 : n ≤ 31) : bits .and .u64 (IntKind.u64.wrap (-(n : Int))) 31 = ((32 - n : Nat) : Int) := by
  have e : IntKind.u64.wrap (-(n : Int)) = ((18446744073709551616 - n : Nat) : Int) := by rw [IntKind.wrap_u64]; omega
  rw [e]
  have h := bits_and_u64_nat (18446744073709551616 - n) 31 (by omega) (by omega)
  have e2 : (18446744073709551616 - n) &&& 31 = (18446744073709551616 - n) % 32 := Nat.and_two_pow_sub_one_eq_mod _ 5
  rw [e2] at h
  refine h.trans ?_
  omega

set_option maxRecDepth 100000 in
set_option maxHeartbeats 1000000 in
theorem rot_any (x n : Nat) (w : World) (hx : (x : Int) < 4294967296) (h1 : 1 ≤ n) (h2 : n ≤ 31) :
    Calls Try.prog 77 #[.int .u32 (x : Int), .int .i64 (-(n : Int))] w fun e w' => e = .returned (.int .u32 (ror x n : Nat)) ∧ w = w' := by
  have hm := neg_mask n h1 h2
  go_enter Try.func77, Try.ntmps77
  go_wp2
  go_ret
  refine ⟨?_, rfl⟩
  have e1 : (x : Int) / 2 ^ (32 - (32 - n)) = ((x / 2 ^ n : Nat) : Int) := by rw [show 32 - (32 - n) = n by omega]; simp
  have e2 : (x : Int) * 2 ^ (32 - n) % 4294967296 = ((x * 2 ^ (32 - n) % 4294967296 : Nat) : Int) := by simp
  have e3 : bits .or .u32 ((x : Int) * 2 ^ (32 - n) % 4294967296) ((x : Int) / 2 ^ (32 - (32 - n))) = ((ror x n : Nat) : Int) := by
    rw [e1, e2, u32_or_nat _ _ (Nat.mod_lt _ (by omega)) (Nat.lt_of_le_of_lt (Nat.div_le_self _ _) (by omega)), Nat.or_comm]
    rfl
  rw [← e3]
  rfl

set_option maxRecDepth 100000 in
set_option maxHeartbeats 1000000 in
theorem cror_any (x n : Nat) (w : World) (hx : (x : Int) < 4294967296) (h1 : 1 ≤ n) (h2 : n ≤ 31) :
    Calls Try.prog 66 #[.int .u32 (x : Int), .int .i64 (n : Int)] w fun e w' => e = .returned (.int .u32 (ror x n : Nat)) ∧ w = w' := by
  go_enter Try.func66, Try.ntmps66
  go_wp2_with ((with_reducible refine (rot_any x n _ hx h1 h2).mono ?_); rintro e w' ⟨rfl, rfl⟩)
  go_ret
  exact ⟨rfl, rfl⟩
/-- The same at a literal, as a quiet call. -/
theorem cror_at (x n : Nat) (k : Int) (w : World) (hx : x < 4294967296) (hk : (n : Int) = k) (h1 : 1 ≤ n) (h2 : n ≤ 31) (m : Nat) :
    Calls Try.prog 66 #[.int .u32 (x : Int), .int .i64 k] (w.drewN m) fun e w' => e = .returned (.int .u32 (ror x n : Nat)) ∧ ∃ q, w' = w.drewN q := by
  subst hk
  exact (cror_any x n _ (by omega) h1 h2).mono fun _ _ ⟨he, hm⟩ => ⟨he, m, hm.symm⟩
end Go.Proofs.Ytilcondnpoinkaa
