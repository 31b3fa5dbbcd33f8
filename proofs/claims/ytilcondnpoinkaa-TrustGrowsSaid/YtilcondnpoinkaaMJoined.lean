/- The contract of joined. -/
import Derived.Test.YtilcondnpoinkaaMMath
import Derived.Test.YtilcondnpoinkaaMJoin
namespace Go.Proofs.Ytilcondnpoinkaa
open Go.RowKit

set_option maxRecDepth 100000 in
set_option maxHeartbeats 1000000 in
theorem joined_any (a b : List UInt8) (g : Nat) (w : World) (hc0 : w.cell? ⟨g, 0, none⟩ = some (.string ⟨a.toArray⟩)) (hc1 : w.cell? ⟨g, 1, none⟩ = some (.string ⟨b.toArray⟩)) (hl : a.length + b.length ≤ 1048576) :
    Calls Try.prog 39 #[.slice (some ⟨g, 0, none⟩) 2 2] w fun e w' => e = .returned (.string ⟨(a ++ b).toArray⟩) ∧ Below w.heap.size w w' := by
  have hg := World.block_lt_of_cell? _ _ hc0
  have hj : (Lib.join ([⟨a.toArray⟩, ⟨b.toArray⟩].map fun x : ByteArray => x.data.toList) []) = a ++ b := by simp [Lib.join, List.intercalate]
  have HJ : Hid (Calls Try.prog 51 #[.slice (some ⟨g, 0, none⟩) 2 2, .string ⟨#[]⟩] w fun e w' => e = .returned (.string ⟨(a ++ b).toArray⟩) ∧ Below w.heap.size w w') := Lib.hid (by
    have := Any.strings_Join joinLays156 joinLaysExtra g 0 2 [⟨a.toArray⟩, ⟨b.toArray⟩] ⟨#[]⟩ w (fun j x hx => by
      rcases j with _ | _ | j
      · obtain rfl : _ = x := by simpa using hx
        exact hc0
      · obtain rfl : _ = x := by simpa using hx
        exact hc1
      · simp at hx) hg (by simp) (by simp) (by rw [hj, List.length_append]; omega)
    rw [hj] at this
    exact this)
  clear hj hl
  go_enter Try.func39, Try.ntmps39
  go_wp2_with fail
  refine HJ.out.mono ?_
  rintro e w1 ⟨rfl, hb⟩
  go_wp2
  go_ret
  exact ⟨rfl, hb⟩
end Go.Proofs.Ytilcondnpoinkaa
