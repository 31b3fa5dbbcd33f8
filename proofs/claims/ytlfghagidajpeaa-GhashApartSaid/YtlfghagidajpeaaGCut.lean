/- The contract of stage 7's cut. -/
import Derived.Test.YtlfghagidajpeaaGMul
namespace Go.Proofs.Ytlfghagidajpeaa
open Go.RowKit

set_option maxRecDepth 100000 in
set_option maxHeartbeats 1000000 in
theorem gcut_any (s : List UInt8) (w : World) (hs : (s.length : Int) ≤ 9223372036854775807) :
    Calls Try.prog 7 #[.string ⟨s.toArray⟩] w fun e w' => e = .returned (.string ⟨(s.take 80).toArray⟩) ∧ w = w' := by
  have hz := size_of s
  obtain ⟨N, hN⟩ : ∃ N, s.length = N := ⟨_, rfl⟩
  rw [hN] at hz hs
  obtain ⟨m, hm⟩ : ∃ m, min N 80 = m := ⟨_, rfl⟩
  have hex := extract_take s m
  have he : s.take m = s.take 80 := by
    rw [← hm]
    by_cases h : N ≤ 80
    · rw [Nat.min_eq_left h, List.take_of_length_le (by omega), List.take_of_length_le (by omega)]
    · rw [Nat.min_eq_right (by omega)]
  rw [he] at hex
  have h1 : (m : Int) ≤ (N : Int) := by omega
  have h2 : min (N : Int) 80 = (m : Int) := by omega
  have h3 : m ≤ N := by omega
  clear hm he hN
  go_enter Try.func7, Try.ntmps7
  go_wp2
  go_ret
  exact ⟨rfl, rfl⟩
end Go.Proofs.Ytlfghagidajpeaa
