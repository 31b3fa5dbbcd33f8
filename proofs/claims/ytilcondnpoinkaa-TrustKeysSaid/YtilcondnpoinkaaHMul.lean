/- The contracts of math/bits.Mul64, and of the two tests whether a number is less than a root times 2^32. -/
import Derived.Test.YtilcondnpoinkaaHRot
import Derived.Lib.Mul64
namespace Go.Proofs.Ytilcondnpoinkaa
open Go.RowKit

theorem maskN (a : Nat) (ha : a < 18446744073709551616) : bits .and .u64 (a : Int) 4294967295 = ((a % 4294967296 : Nat) : Int) := by
  have h := bits_and_u64_nat a 4294967295 ha (by omega)
  rw [show a &&& 4294967295 = a % 4294967296 from Nat.and_two_pow_sub_one_eq_mod a 32] at h
  exact h
theorem divN (a : Nat) : (a : Int) / 4294967296 = ((a / 4294967296 : Nat) : Int) := by omega
theorem wrapN (a : Nat) (ha : a < 18446744073709551616) : IntKind.u64.wrap (a : Int) = (a : Int) := by rw [IntKind.wrap_u64]; omega
theorem wrapM (a : Nat) : IntKind.u64.wrap (a : Int) = ((a % 18446744073709551616 : Nat) : Int) := by rw [IntKind.wrap_u64]; omega

set_option maxRecDepth 100000 in
set_option maxHeartbeats 1000000 in
theorem mul_any (x y : Nat) (hx : x < 18446744073709551616) (hy : y < 18446744073709551616) (w : World) :
    Calls Try.prog 72 #[.int .u64 (x : Int), .int .u64 (y : Int)] w fun e w' => e = .returned (.tuple #[.int .u64 ((x * y / 18446744073709551616 : Nat) : Int), .int .u64 ((x * y % 18446744073709551616 : Nat) : Int)]) ∧ w = w' := by
  obtain ⟨bd, bt, bw, hhi⟩ := Lib.mul64_hi x y hx hy
  have ba := Lib.half_mul_le (a := x / 4294967296) (b := y / 4294967296) (by omega) (by omega)
  have bb := Lib.half_mul_le (a := x / 4294967296) (b := y % 4294967296) (by omega) (by omega)
  have bc := Lib.half_mul_le (a := x % 4294967296) (b := y / 4294967296) (by omega) (by omega)
  have ba' : x / 4294967296 * (y / 4294967296) < 18446744073709551616 := by omega
  have bb' : x / 4294967296 * (y % 4294967296) < 18446744073709551616 := by omega
  have bc' : x % 4294967296 * (y / 4294967296) < 18446744073709551616 := by omega
  have bh1 : x / 4294967296 * (y / 4294967296) + (x / 4294967296 * (y % 4294967296) + x % 4294967296 * (y % 4294967296) / 4294967296) / 4294967296 < 18446744073709551616 := by omega
  have bh : x / 4294967296 * (y / 4294967296) + (x / 4294967296 * (y % 4294967296) + x % 4294967296 * (y % 4294967296) / 4294967296) / 4294967296 + ((x / 4294967296 * (y % 4294967296) + x % 4294967296 * (y % 4294967296) / 4294967296) % 4294967296 + x % 4294967296 * (y / 4294967296)) / 4294967296 < 18446744073709551616 := by omega
  go_enter Try.func72, Try.ntmps72
  go_wp2
  simp only [maskN x hx, maskN y hy, divN, ← Int.natCast_mul, ← Int.natCast_add, wrapN _ bd, wrapN _ bb', wrapN _ bt, maskN _ bt, wrapN _ bc', wrapN _ bw, wrapN _ ba', wrapN _ bh1, wrapN _ bh, wrapM (x * y)]
  rw [hhi]
  go_ret2
  exact ⟨rfl, rfl⟩

/-- Whether a number is less than a square root times 2^32. -/
def lessS (p r : Nat) : Bool := decide (r * r / 18446744073709551616 < p)
/-- .. and than a cube root. -/
def lessC (p r : Nat) : Bool := decide (r * r / 18446744073709551616 * r + r * r % 18446744073709551616 * r / 18446744073709551616 < p * 4294967296)

theorem dec_cast (a b : Nat) : decide ((a : Int) < (b : Int)) = decide (a < b) := by simp
theorem mul_at (x y Q R : Nat) (hx : x < 18446744073709551616) (hy : y < 18446744073709551616) (hQ : x * y / 18446744073709551616 = Q) (hR : x * y % 18446744073709551616 = R) (w : World) :
    Calls Try.prog 72 #[.int .u64 (x : Int), .int .u64 (y : Int)] w fun e w' => e = .returned (.tuple #[.int .u64 (Q : Int), .int .u64 (R : Int)]) ∧ w = w' := by
  subst hQ hR
  exact mul_any x y hx hy w

set_option maxRecDepth 100000 in
set_option maxHeartbeats 1000000 in
theorem lessS_any (p r : Nat) (hp : (p : Int) < 4294967296) (hr : r < 34359738368) (b : Nat) (w : World) (hc : w.cell? ⟨b, 0, none⟩ = some (.int .u32 (p : Int))) :
    Calls Try.prog 73 #[.int .u64 (r : Int), .pointer (some ⟨b, 0, none⟩)] w fun e w' => e = .returned (.bool (lessS p r)) ∧ w = w' := by
  obtain ⟨Q, hQ⟩ : ∃ Q, r * r / 18446744073709551616 = Q := ⟨_, rfl⟩
  obtain ⟨R, hR⟩ : ∃ R, r * r % 18446744073709551616 = R := ⟨_, rfl⟩
  have HL : Hid (lessS p r = decide (Q < p)) := Lib.hid (by rw [lessS, hQ])
  have HM := Lib.hid (mul_at r r Q R (by omega) (by omega) hQ hR w)
  clear hQ hR
  go_enter Try.func73, Try.ntmps73
  go_wp2_with ((with_reducible refine HM.out.mono ?_); rintro e w' ⟨rfl, rfl⟩)
  go_ret
  rw [HL.out]
  exact ⟨rfl, rfl⟩

set_option maxRecDepth 100000 in
set_option maxHeartbeats 1000000 in
theorem lessC_any (p r : Nat) (hp : (p : Int) < 4294967296) (hr : r < 34359738368) (b : Nat) (w : World) (hc : w.cell? ⟨b, 0, none⟩ = some (.int .u32 (p : Int))) :
    Calls Try.prog 71 #[.int .u64 (r : Int), .pointer (some ⟨b, 0, none⟩)] w fun e w' => e = .returned (.bool (lessC p r)) ∧ w = w' := by
  have h1 : r * r ≤ 34359738367 * 34359738367 := Nat.mul_le_mul (by omega) (by omega)
  have h2 : r * r / 18446744073709551616 ≤ 64 := by omega
  have h3 : r * r / 18446744073709551616 * r ≤ 64 * 34359738367 := Nat.mul_le_mul h2 (by omega)
  have h4 : r * r % 18446744073709551616 < 18446744073709551616 := Nat.mod_lt _ (by omega)
  have h5 : r * r % 18446744073709551616 * r ≤ 18446744073709551615 * 34359738367 := Nat.mul_le_mul (by omega) (by omega)
  have h6 : r * r % 18446744073709551616 * r / 18446744073709551616 ≤ 34359738367 := by omega
  obtain ⟨Q, hQ⟩ : ∃ Q, r * r / 18446744073709551616 = Q := ⟨_, rfl⟩
  obtain ⟨R, hR⟩ : ∃ R, r * r % 18446744073709551616 = R := ⟨_, rfl⟩
  rw [hQ] at h2 h3
  rw [hR] at h4 h5 h6
  obtain ⟨S, hS⟩ : ∃ S, R * r / 18446744073709551616 = S := ⟨_, rfl⟩
  obtain ⟨T, hT⟩ : ∃ T, R * r % 18446744073709551616 = T := ⟨_, rfl⟩
  obtain ⟨U, hU⟩ : ∃ U, Q * r = U := ⟨_, rfl⟩
  rw [hS] at h6
  rw [hU] at h3
  have HL : Hid (lessC p r = decide ((U : Int) + (S : Int) < (p : Int) * 4294967296)) := Lib.hid (by
    rw [lessC, hQ, hR, hS, hU]
    have e : (U : Int) + (S : Int) < (p : Int) * 4294967296 ↔ U + S < p * 4294967296 := by omega
    simp only [e])
  have HM := Lib.hid (mul_at r r Q R (by omega) (by omega) hQ hR w)
  have HM2 := Lib.hid (mul_at R r S T (by omega) (by omega) hS hT w)
  have hW : IntKind.u64.wrap ((Q : Int) * (r : Int)) = (U : Int) := by rw [← Int.natCast_mul, hU]; exact wrapN _ (by omega)
  clear hQ hR hS hT hU h1 h5 h4
  go_enter Try.func71, Try.ntmps71
  go_wp2_with ((first | (with_reducible refine HM.out.mono ?_) | (with_reducible refine HM2.out.mono ?_)); rintro e w' ⟨rfl, rfl⟩)
  go_ret
  rw [HL.out]
  exact ⟨rfl, rfl⟩
end Go.Proofs.Ytilcondnpoinkaa
