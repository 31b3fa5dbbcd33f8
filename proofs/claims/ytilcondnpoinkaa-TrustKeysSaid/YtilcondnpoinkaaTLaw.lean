/- The contracts of cut and alive. -/
import Derived.Test.YtilcondnpoinkaaTGrow
import Derived.Test.YtilcondnpoinkaaTKeys
namespace Go.Proofs.Ytilcondnpoinkaa
open Go.RowKit

set_option maxRecDepth 100000 in
set_option maxHeartbeats 1000000 in
theorem tcut_any (s : List UInt8) (w : World) (hs : (s.length : Int) ≤ 9223372036854775807) :
    Calls Try.prog 6 #[.string ⟨s.toArray⟩] w fun e w' => e = .returned (.string ⟨(s.take 100).toArray⟩) ∧ w = w' := by
  have hz := size_mk s
  obtain ⟨N, hN⟩ : ∃ N, s.length = N := ⟨_, rfl⟩
  rw [hN] at hz hs
  obtain ⟨m, hm⟩ : ∃ m, min N 100 = m := ⟨_, rfl⟩
  have hex := extract_take s m
  have he : s.take m = s.take 100 := by
    rw [← hm]
    by_cases h : N ≤ 100
    · rw [Nat.min_eq_left h, List.take_of_length_le (by omega), List.take_of_length_le (by omega)]
    · rw [Nat.min_eq_right (by omega)]
  rw [he] at hex
  have h1 : (m : Int) ≤ (N : Int) := by omega
  have h2 : min (N : Int) 100 = (m : Int) := by omega
  have h3 : m ≤ N := by omega
  clear hm he hN
  go_enter Try.func6, Try.ntmps6
  go_wp2
  go_ret
  exact ⟨rfl, rfl⟩

/-- The key of the slot that is known. -/
def akey : List UInt8 := [48, 49, 50, 51, 52, 53, 54, 55, 56, 57, 97, 98, 99, 100, 101, 102]
theorem boot_alive (w : World) : Calls Try.prog 8 #[.agg #[.int .u64 0, .int .u64 0, .string ⟨#[48, 49, 50, 51, 52, 53, 54, 55, 56, 57, 97, 98, 99, 100, 101, 102]⟩]] w fun e w' => e = .returned (.tuple #[.agg #[.int .u64 0, .int .u64 1, .string ⟨#[48, 49, 50, 51, 52, 53, 54, 55, 56, 57, 97, 98, 99, 100, 101, 102]⟩], .int .i64 0]) ∧ Below w.heap.size w w' :=
  boot_yes 0 0 akey w (by decide) (by decide) (by decide)

set_option maxRecDepth 100000 in
set_option maxHeartbeats 1000000 in
theorem talive_any (w : World) : Calls Try.prog 11 #[] w fun e w' => e = .returned (.bool true) ∧ Below w.heap.size w w' := by
  go_enter Try.func11, Try.ntmps11
  go_wp2_with fail
  refine (boot_alive _).mono ?_
  rintro e w1 ⟨rfl, hb1⟩
  go_wp2
  go_ret
  exact ⟨by first | rfl | simp, ba hb1 _⟩
end Go.Proofs.Ytilcondnpoinkaa
