/- The contract of the reference's ror. -/
import Derived.Test.YtilcondnpoinkaaMem
import Derived.Test.YtilcondnpoinkaaHMath
import Derived.Outline
import Derived.Laws.BitsAllLaws
namespace Go.Proofs.Ytilcondnpoinkaa
open Go.RowKit

theorem ror_int (x n : Nat) (hx : x < 4294967296) : bits .or .u32 ((x : Int) / 2 ^ n) ((x : Int) * 2 ^ (32 - n) % 4294967296) = ((ror x n : Nat) : Int) := by
  have e1 : (x : Int) / 2 ^ n = ((x / 2 ^ n : Nat) : Int) := by simp
  have e2 : (x : Int) * 2 ^ (32 - n) % 4294967296 = ((x * 2 ^ (32 - n) % 4294967296 : Nat) : Int) := by simp
  rw [e1, e2, u32_or_nat _ _ (Nat.lt_of_le_of_lt (Nat.div_le_self _ _) hx) (Nat.mod_lt _ (by omega))]
  rfl

set_option maxRecDepth 100000 in
set_option maxHeartbeats 1000000 in
theorem ror_any (x n : Nat) (w : World) (hx : (x : Int) < 4294967296) (h1 : 1 ≤ n) (h2 : n ≤ 31) :
    Calls Try.prog 67 #[.int .u32 (x : Int), .int .u32 (n : Int)] w fun e w' => e = .returned (.int .u32 (ror x n : Nat)) ∧ w = w' := by
  go_enter Try.func67, Try.ntmps67
  go_wp2
  go_ret
  refine ⟨?_, rfl⟩
  rw [← ror_int x n (by omega)]
  rfl
/-- The same at a literal, as a quiet call. -/
theorem ror_at (x n : Nat) (k : Int) (w : World) (hx : x < 4294967296) (hk : (n : Int) = k) (h1 : 1 ≤ n) (h2 : n ≤ 31) (m : Nat) :
    Calls Try.prog 67 #[.int .u32 (x : Int), .int .u32 k] (w.drewN m) fun e w' => e = .returned (.int .u32 (ror x n : Nat)) ∧ ∃ q, w' = w.drewN q := by
  subst hk
  exact (ror_any x n _ (by omega) h1 h2).mono fun _ _ ⟨he, hm⟩ => ⟨he, m, hm.symm⟩
end Go.Proofs.Ytilcondnpoinkaa
