/- The contracts of alive and cut. -/
import Derived.Test.YtdnndmdjnjhpaaaHSumC
import Derived.Test.YtdnndmdjnjhpaaaHAbc
namespace Go.Proofs.Ytdnndmdjnjhpaaa
open Go.RowKit

theorem abc_bytes : sumL [97, 98, 99] = [186, 120, 22, 191, 143, 1, 207, 234, 65, 65, 64, 222, 93, 174, 34, 35, 176, 3, 97, 163, 150, 23, 122, 156, 180, 16, 255, 97, 242, 0, 21, 173] := abc_sum
set_option maxRecDepth 100000 in
set_option maxHeartbeats 1000000 in
theorem alive_any (w : World) : Calls Try.prog 10 #[] w fun e w' => e = .returned (.bool true) ∧ Below w.heap.size w w' := by
  have HS := Lib.hid (sum_any [97, 98, 99] w (by simp))
  rw [abc_bytes] at HS
  go_enter Try.func10, Try.ntmps10
  go_wp2_with fail
  refine HS.out.mono ?_
  rintro e w1 ⟨rfl, hb1⟩
  go_wp2_with fail
  go_ret
  exact ⟨rfl, hb1⟩
end Go.Proofs.Ytdnndmdjnjhpaaa
