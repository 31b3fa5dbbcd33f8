/- The contracts of isKey, isBlock, stepped, Boxed, Turned and Mixed. -/
import Derived.Test.YtodolffolbkaaaaAGBox
import Derived.Test.YtodolffolbkaaaaAGTurn
import Derived.Test.YtodolffolbkaaaaAGMix
import Derived.Test.YtodolffolbkaaaaATold
namespace Go.Proofs.Ytodolffolbkaaaa
open Go.RowKit

set_option maxRecDepth 100000 in
set_option maxHeartbeats 1000000 in
theorem isBlock_yes (l : List UInt8) (w : World) (hl : l.length = 16) : Calls Try.prog 36 #[.string ⟨l.toArray⟩] w fun e w' => e = .returned (.bool true) ∧ w = w' := by
  have hs := size_of l
  rw [hl] at hs
  go_enter Try.func36, Try.ntmps36
  go_wp2
  go_ret
  exact ⟨rfl, rfl⟩
set_option maxRecDepth 100000 in
set_option maxHeartbeats 1000000 in
theorem isBlock_no (l : List UInt8) (w : World) (hl : l.length ≠ 16) : Calls Try.prog 36 #[.string ⟨l.toArray⟩] w fun e w' => e = .returned (.bool false) ∧ w = w' := by
  have hs := size_of l
  obtain ⟨n, hn⟩ : ∃ n, l.length = n := ⟨_, rfl⟩
  rw [hn] at hs hl
  have h1 : ((n : Int) == 16) = false := by simp; omega
  have h2 : ¬ (n : Int) = 16 := by omega
  clear hn
  go_enter Try.func36, Try.ntmps36
  go_wp2
  go_ret
  exact ⟨rfl, rfl⟩
set_option maxRecDepth 100000 in
set_option maxHeartbeats 1000000 in
theorem isKey_yes (l : List UInt8) (w : World) (hl : l.length = 16 ∨ l.length = 32) : Calls Try.prog 23 #[.string ⟨l.toArray⟩] w fun e w' => e = .returned (.bool true) ∧ w = w' := by
  have hs := size_of l
  rcases hl with hl | hl
  all_goals
    rw [hl] at hs
    go_enter Try.func23, Try.ntmps23
    go_wp2
    go_ret
    exact ⟨rfl, rfl⟩
set_option maxRecDepth 100000 in
set_option maxHeartbeats 1000000 in
theorem isKey_no (l : List UInt8) (w : World) (hl : ¬ (l.length = 16 ∨ l.length = 32)) : Calls Try.prog 23 #[.string ⟨l.toArray⟩] w fun e w' => e = .returned (.bool false) ∧ w = w' := by
  have hs := size_of l
  obtain ⟨n, hn⟩ : ∃ n, l.length = n := ⟨_, rfl⟩
  rw [hn] at hs hl
  have h1 : ((n : Int) == 16) = false := by simp; omega
  have h2 : ((n : Int) == 32) = false := by simp; omega
  have h3 : ¬ n = 16 := by omega
  have h4 : ¬ n = 32 := by omega
  clear hn
  go_enter Try.func23, Try.ntmps23
  go_wp2
  go_ret
  exact ⟨rfl, rfl⟩
theorem rnd_zero (gb : Nat) : #[.int .u8 0, .int .u8 0, .int .u8 0, .int .u8 0, .int .u8 0, .int .u8 0, .int .u8 0, .int .u8 0, .int .u8 0, .int .u8 0, .int .u8 0, .int .u8 0, .int .u8 0, .int .u8 0, .int .u8 0, .int .u8 0, .slice (some ⟨gb, 0, none⟩) 256 256] = rnd (zerosL 16) gb := by kernel_rfl

set_option maxRecDepth 100000 in
set_option maxHeartbeats 1000000 in
theorem stepped_box (l : List UInt8) (K : List UInt8) (r gb : Nat) (w : World) (hl : l.length = 16) (hK : K.length = 16) (hr : Blk w r 52 (rnd K gb)) (hx : Blk w gb 5 bxs) :
    Calls Try.prog 28 #[.string ⟨l.toArray⟩, .func (.func 29) #[] #[], .pointer (some ⟨r, 0, none⟩)] w fun e w' => e = .returned (.tuple #[.string ⟨(boxG l).toArray⟩, .int .i64 0]) ∧ Below w.heap.size w w' := by
  have H1 := Lib.hid (isBlock_yes l w hl)
  have H2 := Lib.hid (gridOf_any l w hl)
  have HR := Lib.hid hr
  have HX := Lib.hid hx
  clear hr hx
  go_enter Try.func28, Try.ntmps28
  go_wp2_with fail
  refine H1.out.mono ?_
  rintro e w0 ⟨rfl, rfl⟩
  go_wp2_with fail
  refine H2.out.mono ?_
  rintro e w1 ⟨rfl, hb1⟩
  go_wp2_with fail
  refine (gboxed_any l K r gb _ hl hK (HR.out.below hb1) (HX.out.below hb1)).mono ?_
  rintro e w2 ⟨rfl, hb2⟩
  go_wp2_with fail
  refine (told_any (boxG l) _ (tab_len _ _)).mono ?_
  rintro e w3 ⟨rfl, hb3⟩
  go_wp2_with fail
  go_ret2
  exact ⟨rfl, bt (bt hb1 hb2) hb3⟩
set_option maxRecDepth 100000 in
set_option maxHeartbeats 1000000 in
theorem stepped_turn (l : List UInt8) (rv : Value) (w : World) (hl : l.length = 16) :
    Calls Try.prog 28 #[.string ⟨l.toArray⟩, .func (.func 30) #[] #[], rv] w fun e w' => e = .returned (.tuple #[.string ⟨(turnG l).toArray⟩, .int .i64 0]) ∧ Below w.heap.size w w' := by
  have H1 := Lib.hid (isBlock_yes l w hl)
  have H2 := Lib.hid (gridOf_any l w hl)
  go_enter Try.func28, Try.ntmps28
  go_wp2_with fail
  refine H1.out.mono ?_
  rintro e w0 ⟨rfl, rfl⟩
  go_wp2_with fail
  refine H2.out.mono ?_
  rintro e w1 ⟨rfl, hb1⟩
  go_wp2_with fail
  refine (gturned_any l rv _ hl).mono ?_
  rintro e w2 ⟨rfl, hb2⟩
  go_wp2_with fail
  refine (told_any (turnG l) _ (tab_len _ _)).mono ?_
  rintro e w3 ⟨rfl, hb3⟩
  go_wp2_with fail
  go_ret2
  exact ⟨rfl, bt (bt hb1 hb2) hb3⟩
set_option maxRecDepth 100000 in
set_option maxHeartbeats 1000000 in
theorem stepped_mix (l : List UInt8) (rv : Value) (w : World) (hl : l.length = 16) :
    Calls Try.prog 28 #[.string ⟨l.toArray⟩, .func (.func 31) #[] #[], rv] w fun e w' => e = .returned (.tuple #[.string ⟨(mixG l).toArray⟩, .int .i64 0]) ∧ Below w.heap.size w w' := by
  have H1 := Lib.hid (isBlock_yes l w hl)
  have H2 := Lib.hid (gridOf_any l w hl)
  go_enter Try.func28, Try.ntmps28
  go_wp2_with fail
  refine H1.out.mono ?_
  rintro e w0 ⟨rfl, rfl⟩
  go_wp2_with fail
  refine H2.out.mono ?_
  rintro e w1 ⟨rfl, hb1⟩
  go_wp2_with fail
  refine (gmixed_any l rv _ hl).mono ?_
  rintro e w2 ⟨rfl, hb2⟩
  go_wp2_with fail
  refine (told_any (mixG l) _ (tab_len _ _)).mono ?_
  rintro e w3 ⟨rfl, hb3⟩
  go_wp2_with fail
  go_ret2
  exact ⟨rfl, bt (bt hb1 hb2) hb3⟩
set_option maxRecDepth 100000 in
set_option maxHeartbeats 1000000 in
theorem stepped_no (l : List UInt8) (fv rv : Value) (w : World) (hl : l.length ≠ 16) :
    Calls Try.prog 28 #[.string ⟨l.toArray⟩, fv, rv] w fun e w' => e = .returned (.tuple #[.string ⟨#[]⟩, .int .i64 4]) ∧ Below w.heap.size w w' := by
  have H1 := Lib.hid (isBlock_no l w hl)
  go_enter Try.func28, Try.ntmps28
  go_wp2_with fail
  refine H1.out.mono ?_
  rintro e w0 ⟨rfl, rfl⟩
  go_wp2_with fail
  go_ret2
  exact ⟨rfl, Below.refl _ _⟩
set_option maxRecDepth 100000 in
set_option maxHeartbeats 1000000 in
theorem turn_yes (l : List UInt8) (w : World) (hl : l.length = 16) :
    Calls Try.prog 15 #[.string ⟨l.toArray⟩] w fun e w' => e = .returned (.tuple #[.string ⟨(turnG l).toArray⟩, .int .i64 0]) ∧ Below w.heap.size w w' := by
  have H2 := Lib.hid (fun rv W => stepped_turn l rv W hl)
  go_enter Try.func15, Try.ntmps15
  go_wp2_with fail
  refine (H2.out _ _).mono ?_
  rintro e w2 ⟨rfl, hb2⟩
  go_wp2_with fail
  go_ret2
  exact ⟨rfl, bt (ba (Below.refl _ _) _) hb2⟩
set_option maxRecDepth 100000 in
set_option maxHeartbeats 1000000 in
theorem turn_no (l : List UInt8) (w : World) (hl : l.length ≠ 16) :
    Calls Try.prog 15 #[.string ⟨l.toArray⟩] w fun e w' => e = .returned (.tuple #[.string ⟨#[]⟩, .int .i64 4]) ∧ Below w.heap.size w w' := by
  have H2 := Lib.hid (fun fv rv W => stepped_no l fv rv W hl)
  go_enter Try.func15, Try.ntmps15
  go_wp2_with fail
  refine (H2.out _ _ _).mono ?_
  rintro e w2 ⟨rfl, hb2⟩
  go_wp2_with fail
  go_ret2
  exact ⟨rfl, bt (ba (Below.refl _ _) _) hb2⟩
set_option maxRecDepth 100000 in
set_option maxHeartbeats 1000000 in
theorem mix_yes (l : List UInt8) (w : World) (hl : l.length = 16) :
    Calls Try.prog 16 #[.string ⟨l.toArray⟩] w fun e w' => e = .returned (.tuple #[.string ⟨(mixG l).toArray⟩, .int .i64 0]) ∧ Below w.heap.size w w' := by
  have H2 := Lib.hid (fun rv W => stepped_mix l rv W hl)
  go_enter Try.func16, Try.ntmps16
  go_wp2_with fail
  refine (H2.out _ _).mono ?_
  rintro e w2 ⟨rfl, hb2⟩
  go_wp2_with fail
  go_ret2
  exact ⟨rfl, bt (ba (Below.refl _ _) _) hb2⟩
set_option maxRecDepth 100000 in
set_option maxHeartbeats 1000000 in
theorem mix_no (l : List UInt8) (w : World) (hl : l.length ≠ 16) :
    Calls Try.prog 16 #[.string ⟨l.toArray⟩] w fun e w' => e = .returned (.tuple #[.string ⟨#[]⟩, .int .i64 4]) ∧ Below w.heap.size w w' := by
  have H2 := Lib.hid (fun fv rv W => stepped_no l fv rv W hl)
  go_enter Try.func16, Try.ntmps16
  go_wp2_with fail
  refine (H2.out _ _ _).mono ?_
  rintro e w2 ⟨rfl, hb2⟩
  go_wp2_with fail
  go_ret2
  exact ⟨rfl, bt (ba (Below.refl _ _) _) hb2⟩
set_option maxRecDepth 100000 in
set_option maxHeartbeats 1000000 in
theorem box_yes (l : List UInt8) (w : World) (hl : l.length = 16) :
    Calls Try.prog 14 #[.string ⟨l.toArray⟩] w fun e w' => e = .returned (.tuple #[.string ⟨(boxG l).toArray⟩, .int .i64 0]) ∧ Below w.heap.size w w' := by
  have H1 := Lib.hid (boxes_any w)
  have H2 := Lib.hid (fun r gb W hr hx => stepped_box l (zerosL 16) r gb W hl (zerosL_len 16) hr hx)
  have HZ := Lib.hid rnd_zero
  go_enter Try.func14, Try.ntmps14
  go_wp2_with fail
  refine H1.out.mono ?_
  rintro e w1 ⟨gb, rfl, hg, hB, hb1⟩
  have HB := Lib.hid hB
  have z1 := hb1.size
  clear hB
  go_wp2_with fail
  rw [HZ.out]
  refine (H2.out _ _ _ (Blk.new w1 _ _) (HB.out.alloc _)).mono ?_
  rintro e w2 ⟨rfl, hb2⟩
  go_wp2_with fail
  go_ret2
  exact ⟨rfl, bt (ba hb1 _) hb2⟩
set_option maxRecDepth 100000 in
set_option maxHeartbeats 1000000 in
theorem box_no (l : List UInt8) (w : World) (hl : l.length ≠ 16) :
    Calls Try.prog 14 #[.string ⟨l.toArray⟩] w fun e w' => e = .returned (.tuple #[.string ⟨#[]⟩, .int .i64 4]) ∧ Below w.heap.size w w' := by
  have H1 := Lib.hid (boxes_any w)
  have H2 := Lib.hid (fun fv rv W => stepped_no l fv rv W hl)
  go_enter Try.func14, Try.ntmps14
  go_wp2_with fail
  refine H1.out.mono ?_
  rintro e w1 ⟨gb, rfl, hg, -, hb1⟩
  have z1 := hb1.size
  go_wp2_with fail
  refine (H2.out _ _ _).mono ?_
  rintro e w2 ⟨rfl, hb2⟩
  go_wp2_with fail
  go_ret2
  exact ⟨rfl, bt (ba hb1 _) hb2⟩
end Go.Proofs.Ytodolffolbkaaaa
