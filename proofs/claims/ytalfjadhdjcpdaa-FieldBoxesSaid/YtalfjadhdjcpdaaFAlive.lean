/- The contract of FieldTells' and its fellows' alive. -/
import Derived.Test.YtalfjadhdjcpdaaFBox
namespace Go.Proofs.Ytalfjadhdjcpdaa
open Go.RowKit

theorem cm_alive : cm 87 131 = 193 := by decide +kernel
theorem box_alive : box 0 = 99 := by decide +kernel
set_option maxRecDepth 100000 in
set_option maxHeartbeats 1000000 in
theorem alive_any (w : World) : Calls Try.prog 8 #[] w fun e w' => e = .returned (.bool true) ∧ w = w' := by
  have H1 := Lib.hid (mul_any 87 131 w (by omega) (by omega))
  have H2 := Lib.hid (box_any 0 w (by omega))
  rw [cm_alive] at H1
  rw [box_alive] at H2
  go_enter Try.func8, Try.ntmps8
  go_wp2_with fail
  refine H1.out.mono ?_
  rintro e w1 ⟨rfl, rfl⟩
  go_wp2_with fail
  refine H2.out.mono ?_
  rintro e w1 ⟨rfl, rfl⟩
  go_wp2_with fail
  go_ret
  exact ⟨rfl, rfl⟩
end Go.Proofs.Ytalfjadhdjcpdaa
