/- The contract of the reference's Bit. -/
import Derived.Test.YtlfghagidajpeaaGWord
import Derived.Test.YtlfghagidajpeaaGRMath
import Derived.Test.YtlfghagidajpeaaGPoly
namespace Go.Proofs.Ytlfghagidajpeaa
open Go.RowKit

set_option maxRecDepth 100000 in
set_option maxHeartbeats 1000000 in
theorem rBit_any (s : List UInt8) (i n : Nat) (w : World) (hs : s.length = n) (hi : i / 8 < n) (hi2 : i < 1000) :
    Calls Try.prog 32 #[.string ⟨s.toArray⟩, .int .i64 (i : Int)] w fun e w' => e = .returned (.bool (co s i)) ∧ w = w' := by
  have hsz := size_of s
  rw [hs] at hsz
  have hix := gindex_of s (i / 8) ((i : Int) / 8) (by omega) (by omega)
  have HE : Hid (co s i = (((ub s (i / 8)).toNat / 2 ^ (7 - i % 8)) % 2 == 1)) := Lib.hid (by
    unfold co
    rw [Nat.testBit_eq_decide_div_mod_eq]
    rfl)
  have hb := (ub s (i / 8)).toNat_lt
  rw [HE.out]
  generalize ub s (i / 8) = b at hix hb ⊢
  have hm : ((i : Int) % 8) = ((i % 8 : Nat) : Int) := by omega
  have hr : i % 8 < 8 := Nat.mod_lt _ (by omega)
  generalize i % 8 = r at hm hr ⊢
  have HW : Hid (IntKind.i64.wrap (b.toNat : Int) = (b.toNat : Int)) := Lib.hid (by have h64 := IntKind.wrap_i64; rw [h64]; omega)
  clear HE hs hi
  go_enter Try.func32, Try.ntmps32
  go_wp2_with fail
  try rw [HW.out]
  go_loop [5, 6] (fun nv kv => ∃ d k q : Nat, r + d = k ∧ k ≤ 7 ∧ kv = .int .i64 k ∧ nv = .int .i64 q ∧ q < 256 ∧ Hid (q = b.toNat / 2 ^ d)) (fun _ kv => 7 - (intOf kv).toNat)
  case atStart => exact ⟨0, r, b.toNat, rfl, by omega, by rw [← hm], rfl, hb, Lib.hid (by simp)⟩
  case round =>
    clear hix HW hb hm
    obtain ⟨d, k, q, hd, hk, rfl, rfl, hq, HQ⟩ := hrel
    by_cases hlt : k < 7
    · have hkl : (k : Int) < 7 := by omega
      go_wp2_with fail
      exact ⟨⟨d + 1, k + 1, q / 2, by omega, by omega, by go_num, by go_num, by omega, Lib.hid (by rw [HQ.out, Nat.div_div_eq_div_mul, Nat.pow_succ])⟩, by simp [intOf]; omega⟩
    · obtain rfl : k = 7 := by omega
      obtain rfl : d = 7 - r := by omega
      go_wp2_with fail
      go_ret
      refine ⟨?_, rfl⟩
      rw [← HQ.out]
      have h2 := Nat.mod_two_eq_zero_or_one q
      rcases h2 with h2 | h2
      · have h3 : ((q : Int) % 2) = 0 := by omega
        simp [h2, h3]
      · have h3 : ((q : Int) % 2) = 1 := by omega
        simp [h2, h3]
end Go.Proofs.Ytlfghagidajpeaa
