/- The contract of math/bits.Len64: how many bits a number takes. -/
import Derived.Test.YtcecjoodlmpgnaaGreatProg
import Derived.Lib.BitFns
import Derived.Lib.Strings
import Derived.Lib.Slices
import Derived.Lib.Small
import Derived.Lib.Walk
namespace Go.Proofs.YtcecjoodlmpgnaaGreat

theorem len8_bits (s : Nat) (x y : Int) (h0 : 0 ≤ x) (h1 : x ≤ 18446744073709551615) (hy : y = x / ((2 ^ s : Nat) : Int)) (hb : y ≤ 255) (hs : s = 0 ∨ ((2 ^ s : Nat) : Int) ≤ x) : Lib.len8 y + (s : Int) = (Lib.bitLen x.toNat : Int) ∧ 0 ≤ Lib.len8 y ∧ Lib.len8 y ≤ 8 := by
  have hy0 : 0 ≤ y := by rw [hy]; exact Int.ediv_nonneg h0 (Int.natCast_nonneg _)
  have e : y.toNat = x.toNat / 2 ^ s := by
    obtain ⟨n, rfl⟩ := Int.eq_ofNat_of_zero_le h0
    rw [hy, ← Int.natCast_ediv]
    rfl
  have l := Lib.bitLen_le8' y hy0 hb
  rw [Lib.len8_of y hy0 hb]
  refine ⟨?_, by omega, by omega⟩
  rw [e]
  rcases hs with rfl | hs
  · simp
  · have := Lib.bitLen_shift s x.toNat (by omega) (by omega)
    omega

set_option maxHeartbeats 4000000 in
set_option maxRecDepth 100000 in
theorem len64_any (x : Int) (w : World) (h0 : 0 ≤ x) (h1 : x ≤ 18446744073709551615) :
    Calls Tryz.prog 136 #[.int .u64 x] w fun e w' => e = .returned (.int .i64 (Lib.bitLen x.toNat)) ∧ w' = w := by
  go_enter Tryz.func136, Tryz.ntmps136
  go_wp2
  all_goals (go_ret; refine ⟨congrArg Ending.returned (congrArg (Value.int IntKind.i64) ?_), rfl⟩)
  all_goals first
    | (have k := len8_bits 56 x (x / 4294967296 / 65536 / 256 % 256) h0 h1 (by omega) (by omega) (by omega); omega)
    | (have k := len8_bits 48 x (x / 4294967296 / 65536 % 256) h0 h1 (by omega) (by omega) (by omega); omega)
    | (have k := len8_bits 40 x (x / 4294967296 / 256 % 256) h0 h1 (by omega) (by omega) (by omega); omega)
    | (have k := len8_bits 32 x (x / 4294967296 % 256) h0 h1 (by omega) (by omega) (by omega); omega)
    | (have k := len8_bits 24 x (x / 65536 / 256 % 256) h0 h1 (by omega) (by omega) (by omega); omega)
    | (have k := len8_bits 16 x (x / 65536 % 256) h0 h1 (by omega) (by omega) (by omega); omega)
    | (have k := len8_bits 8 x (x / 256 % 256) h0 h1 (by omega) (by omega) (by omega); omega)
    | (have k := len8_bits 0 x (x % 256) h0 h1 (by simp; omega) (by omega) (by omega); omega)
end Go.Proofs.YtcecjoodlmpgnaaGreat
