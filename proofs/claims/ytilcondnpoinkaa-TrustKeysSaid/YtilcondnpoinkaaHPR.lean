/- The primes, and the numbers that the roots tell: reckoned. -/
import Derived.Test.YtilcondnpoinkaaHPrime
import Derived.Test.YtilcondnpoinkaaHRoot
namespace Go.Proofs.Ytilcondnpoinkaa

/-- The first 64 primes. -/
def PR : List Nat := [2, 3, 5, 7, 11, 13, 17, 19, 23, 29, 31, 37, 41, 43, 47, 53, 59, 61, 67, 71, 73, 79, 83, 89, 97, 101, 103, 107, 109, 113, 127, 131, 137, 139, 149, 151, 157, 163, 167, 173, 179, 181, 191, 193, 197, 199, 211, 223, 227, 229, 233, 239, 241, 251, 257, 263, 269, 271, 277, 281, 283, 293, 307, 311]
/-- A root, tried from the highest bit on. -/
def rootA (f : Nat → Bool) : Nat → Nat → Nat
  | 0, r => r
  | b + 1, r => bif f (r ||| 2 ^ b) then rootA f b (r ||| 2 ^ b) else rootA f b r
theorem rootA_is (f : Nat → Bool) (d : Nat) : ∀ k, k + d = 35 → rootA f d (rootN f k) = rootN f 35 := by
  induction d with
  | zero => intro k hk; obtain rfl : k = 35 := by omega
            rfl
  | succ d ih =>
    intro k hk
    have h := ih (k + 1) (by omega)
    rw [rootN, show 34 - k = d by omega] at h
    rw [rootA]
    by_cases hf : f (rootN f k ||| 2 ^ d) = true
    · rw [if_pos hf] at h
      rw [hf]
      exact h
    · rw [if_neg hf] at h
      rw [show f (rootN f k ||| 2 ^ d) = false by simpa using hf]
      exact h
theorem rootS_is (p : Nat) : rootS p = rootA (lessS p) 35 0 % 4294967296 := by rw [rootS, ← rootA_is (lessS p) 35 0 rfl]; rfl
theorem rootC_is (p : Nat) : rootC p = rootA (lessC p) 35 0 % 4294967296 := by rw [rootC, ← rootA_is (lessC p) 35 0 rfl]; rfl

/-- One step of the search. -/
def stepP (L : List Nat) (n : Nat) : List Nat := if hasF n L then L else L ++ [n]
theorem step_ok : ∀ j, j < 310 → stepP (PR.filter fun x => decide (x < j + 2)) (j + 2) = PR.filter fun x => decide (x < j + 3) := by decide +kernel
theorem lessAt_is (j : Nat) (h : j ≤ 310) : lessAt j = PR.filter fun x => decide (x < j + 2) := by
  induction j with
  | zero => decide +kernel
  | succ j ih =>
    have e : lessAt (j + 1) = stepP (lessAt j) (j + 2) := rfl
    rw [e, ih (by omega), step_ok j (by omega)]
theorem bef64 : ∀ j, j < 310 → (lessAt j).length < 64 := fun j h => by
  have key : ∀ j, j < 310 → (PR.filter fun x => decide (x < j + 2)).length < 64 := by decide +kernel
  rw [lessAt_is j (by omega)]; exact key j h
theorem end64 : lessAt 310 = PR := by rw [lessAt_is 310 (Nat.le_refl _)]; decide +kernel
theorem bef8 : ∀ j, j < 18 → (lessAt j).length < 8 := fun j h => by
  have key : ∀ j, j < 18 → (PR.filter fun x => decide (x < j + 2)).length < 8 := by decide +kernel
  rw [lessAt_is j (by omega)]; exact key j h
theorem end8 : lessAt 18 = PR.take 8 := by rw [lessAt_is 18 (by omega)]; decide +kernel
theorem keys_ok : (PR.map rootC) = keysL := by
  have e : PR.map rootC = PR.map fun p => rootA (lessC p) 35 0 % 4294967296 := List.map_congr_left fun p _ => rootC_is p
  rw [e]; decide +kernel
theorem start_ok : ((PR.take 8).map rootS) = startL := by
  have e : (PR.take 8).map rootS = (PR.take 8).map fun p => rootA (lessS p) 35 0 % 4294967296 := List.map_congr_left fun p _ => rootS_is p
  rw [e]; decide +kernel
end Go.Proofs.Ytilcondnpoinkaa
