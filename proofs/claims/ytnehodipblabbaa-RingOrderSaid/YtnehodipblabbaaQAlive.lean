/- The contract of the law's alive. -/
import Derived.Test.YtnehodipblabbaaQItems
import Derived.Test.YtnehodipblabbaaQLike
namespace Go.Proofs.Ytnehodipblabbaa
open Go.RowKit

theorem qalive_right : QR [[99], [], [98]] 2 2 := by
  have h := (qright_iff (L := [[99], [], [98]]) (f := 2) (m := 2)).1 (by decide +kernel)
  obtain ⟨a, b, h1, h2, h⟩ := h
  obtain rfl : a = 2 := by omega
  obtain rfl : b = 2 := by omega
  exact h
theorem qalive_items : qitems [[99], [], [98]] 2 2 = [[98], [99]] := by decide +kernel

abbrev albox (w : World) : World := w.alloc (.cells #[sv [99], sv [], sv [98]] 9)

set_option maxRecDepth 100000 in
set_option maxHeartbeats 2000000 in
theorem qalive_any (w : World) : Calls Try.prog 12 #[] w fun e w' => e = .returned (.bool true) ∧ Below w.heap.size w w' := by
  have KR : Blk (albox w) w.heap.size 9 (([[99], [], [98]].map sv).toArray) := Blk.new w _ _
  have HM : QM (albox w) (some ⟨w.heap.size, 0, none⟩) 3 3 [[99], [], [98]] := ⟨blk_SR KR, rfl, (fun e => by cases e), by omega, by omega⟩
  have HB : Hid (Below w.heap.size w (albox w)) := Lib.hid (ba (Below.refl _ _) _)
  have HF := Lib.hid (items_yes (some ⟨w.heap.size, 0, none⟩) 3 3 2 2 [[99], [], [98]] _ HM qalive_right)
  rw [qalive_items] at HF
  clear KR HM
  go_enter Try.func12, Try.ntmps12
  go_wp2_with fail
  refine HF.out.mono ?_
  rintro e1 w1 ⟨A1, c1, rfl, hown, hb1⟩
  have B1 := Lib.hid (ba (bt HB.out hb1) (.cells #[sv [98], sv [99]] 9))
  have S1 := (own_SR' hown rfl).later (ba (Below.refl w1.heap.size w1) (.cells #[sv [98], sv [99]] 9))
  have S2 : SR (w1.alloc (.cells #[sv [98], sv [99]] 9)) (some ⟨w1.heap.size, 0, none⟩) [[98], [99]] := blk_SR (L := [[98], [99]]) (Blk.new w1 9 #[sv [98], sv [99]])
  have HS := Lib.hid (qtexts_any A1 (some ⟨w1.heap.size, 0, none⟩) c1 2 2 2 [[98], [99]] [[98], [99]] _ S1 S2 rfl rfl (by omega) (by omega))
  clear hown hb1 S1 S2
  go_wp2_with fail
  refine HS.out.mono ?_
  rintro e2 w2 ⟨rfl, hb2⟩
  go_wp2
  go_ret
  exact ⟨by simp, bt B1.out hb2⟩
end Go.Proofs.Ytnehodipblabbaa
