/- The contract of Mix, refused. -/
import Derived.Test.YtdnndmdjnjhpaaaHNew
import Derived.Test.YtdnndmdjnjhpaaaHMixed
namespace Go.Proofs.Ytdnndmdjnjhpaaa
open Go.RowKit

set_option maxRecDepth 100000 in
set_option maxHeartbeats 1000000 in
theorem mix_bad (A : Option Addr) (n c : Nat) (b : List UInt8) (w : World) (h : n ≠ 8 ∨ b.length ≠ 64) :
    Calls Try.prog 14 #[.slice A n c, .string ⟨b.toArray⟩] w fun e w' => e = .returned (.tuple #[.slice none 0 0, .int .i64 4]) ∧ w = w' := by
  have hz := size_of b
  obtain ⟨N, hN⟩ : ∃ N, b.length = N := ⟨_, rfl⟩
  rw [hN] at hz h
  clear hN
  by_cases h8 : n = 8
  · have h64 : ((N : Int) != 64) = true := by have : N ≠ 64 := h.resolve_left (fun h' => h' h8); simp; omega
    have h8' : ((n : Int) != 8) = false := by simp; omega
    clear h h8
    go_enter Try.func14, Try.ntmps14
    go_wp2
    go_ret2
    exact ⟨rfl, rfl⟩
  · have h8' : ((n : Int) != 8) = true := by simp; omega
    clear h h8
    go_enter Try.func14, Try.ntmps14
    go_wp2
    go_ret2
    exact ⟨rfl, rfl⟩

end Go.Proofs.Ytdnndmdjnjhpaaa
