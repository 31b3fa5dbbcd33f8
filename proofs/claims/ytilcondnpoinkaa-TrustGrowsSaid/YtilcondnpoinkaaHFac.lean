/- The contract of hasFactor. -/
import Derived.Test.YtilcondnpoinkaaHRot
import Derived.Test.YtilcondnpoinkaaHKeys
namespace Go.Proofs.Ytilcondnpoinkaa
open Go.RowKit

/-- Whether one of the numbers, up to the root, divides n. -/
def hasF (n : Nat) : List Nat → Bool
  | [] => false
  | p :: r => if n < p * p then false else if n % p = 0 then true else hasF n r

set_option maxRecDepth 100000 in
set_option maxHeartbeats 2000000 in
theorem hasF_any (n : Nat) (A : Option Addr) (c m : Nat) (L : List Nat) (w : World) (hA : WR w A L) (hl : L.length = m) (h64 : m ≤ 64) (hn : (n : Int) < 4294967296) (hL : ∀ x ∈ L, 2 ≤ x ∧ x < 1000) :
    Calls Try.prog 69 #[.int .u32 (n : Int), .slice A m c] w fun e w' => e = .returned (.bool (hasF n L)) ∧ w = w' := by
  have HA := Lib.hid hA
  have HL := Lib.hid hl
  have HX := Lib.hid hL
  clear hA hl hL
  go_enter Try.func69, Try.ntmps69
  go_wp2_with fail
  go_loop [9] (fun iv => ∃ k : Nat, k ≤ m ∧ iv = .int .i64 k ∧ Hid (hasF n L = hasF n (L.drop k))) (fun i => m - (intOf i).toNat)
  case atStart => exact ⟨0, Nat.zero_le _, rfl, Lib.hid (by simp)⟩
  case round =>
    obtain ⟨k, hk, rfl, HF⟩ := hrel
    by_cases hlt : k < m
    · have hkl : k < L.length := by rw [HL.out]; exact hlt
      obtain ⟨g, off, rfl, c0⟩ := HA.out k hkl
      have hx := HX.out _ (List.getElem_mem hkl)
      rw [wn_get L k hkl] at c0
      have HS : Hid (hasF n (L.drop k) = if n < L[k] * L[k] then false else if n % L[k] = 0 then true else hasF n (L.drop (k + 1))) := Lib.hid (by rw [List.drop_eq_getElem_cons hkl, hasF])
      obtain ⟨x, hx'⟩ : ∃ x, L[k] = x := ⟨_, rfl⟩
      rw [hx'] at c0 hx HS
      obtain ⟨hx1, hx2⟩ := hx
      clear hx' hkl
      have hq : x * x ≤ 999 * 999 := Nat.mul_le_mul (by omega) (by omega)
      obtain ⟨q, hqq⟩ : ∃ q, x * x = q := ⟨_, rfl⟩
      have hw : IntKind.u32.wrap ((x : Int) * (x : Int)) = (q : Int) := by rw [← Int.natCast_mul, hqq, IntKind.wrap_u32]; omega
      rw [hqq] at hq HS
      clear hqq
      have hx3 : (2 : Int) ≤ (x : Int) := by omega
      by_cases h1 : n < q
      · have HE : Hid (hasF n L = false) := Lib.hid (by rw [HF.out, HS.out, if_pos h1])
        go_wp2
        go_ret
        rw [HE.out]
        exact ⟨rfl, rfl⟩
      · by_cases h2 : n % x = 0
        · have HE : Hid (hasF n L = true) := Lib.hid (by rw [HF.out, HS.out, if_neg h1, if_pos h2])
          have h2' : (n : Int) % (x : Int) = 0 := by omega
          have H2 := Lib.hid h2
          clear h2
          go_wp2
          go_ret
          rw [HE.out]
          exact ⟨rfl, rfl⟩
        · have HE : Hid (hasF n L = hasF n (L.drop (k + 1))) := Lib.hid (by rw [HF.out, HS.out, if_neg h1, if_neg h2])
          have h2' : ¬ (n : Int) % (x : Int) = 0 := by omega
          have h2'' : ((n : Int) % (x : Int) == 0) = false := by simpa using h2'
          have H2 := Lib.hid h2
          have H2' := Lib.hid h2'
          clear h2 h2'
          go_wp2
          exact ⟨⟨k + 1, by omega, by go_num, HE⟩, by simp [intOf]; omega⟩
    · obtain rfl : k = m := by omega
      have HE : Hid (hasF n L = false) := Lib.hid (by rw [HF.out, ← HL.out, List.drop_length, hasF])
      go_wp2
      go_ret
      rw [HE.out]
      exact ⟨rfl, rfl⟩
end Go.Proofs.Ytilcondnpoinkaa
