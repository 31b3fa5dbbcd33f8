/- The contracts of Like and of the reference's Same of two rings. -/
import Derived.Test.YtnehodipblabbaaQEq
namespace Go.Proofs.Ytnehodipblabbaa
open Go.RowKit

abbrev qboxes (w : World) (A : Option Addr) (n c : Nat) (f m : Int) (B : Option Addr) (k d : Nat) (g l : Int) : World := (qbox w A n c f m).alloc (.cells (qcs B k d g l) 24)

set_option maxRecDepth 100000 in
set_option maxHeartbeats 2000000 in
theorem qlike_walk (A B : Option Addr) (n c k d : Nat) (f m g l : Int) (r : Bool) (w : World)
    (HE : Hid (∀ W, Below w.heap.size w W → Calls Try.prog 23 #[.slice A n c, .slice B k d] W fun e w' => e = .returned (.bool r) ∧ Below W.heap.size W w'))
    (b1 b2 : Bool) (h1 : (f == g) = b1) (h2 : (m == l) = b2) :
    Calls Try.prog 10 #[qv A n c f m, qv B k d g l] w fun e w' => e = .returned (.bool ((b1 && b2) && r)) ∧ Below w.heap.size w w' := by
  have HB : Hid (Below w.heap.size w (qboxes w A n c f m B k d g l)) := Lib.hid (ba (qbox_below w A n c f m) _)
  have hB := HB.out
  cases b1 with
  | false =>
    go_enter Try.func10, Try.ntmps10
    go_wp2
    go_ret
    exact ⟨rfl, hB⟩
  | true =>
    cases b2 with
    | false =>
      go_enter Try.func10, Try.ntmps10
      go_wp2
      go_ret
      exact ⟨rfl, hB⟩
    | true =>
      clear hB
      go_enter Try.func10, Try.ntmps10
      go_wp2_with fail
      refine (HE.out _ HB.out).mono ?_
      rintro e1 w1 ⟨rfl, hb1⟩
      go_wp2
      go_ret
      exact ⟨by cases r <;> rfl, bt HB.out hb1⟩

/-- Like, of any two rings that can be read. -/
theorem qlike_any (A B : Option Addr) (n c k d : Nat) (f m g l : Int) (L K : List (List UInt8)) (w : World) (hA : QM w A n c L) (hB : QM w B k d K) :
    Calls Try.prog 10 #[qv A n c f m, qv B k d g l] w fun e w' => e = .returned (.bool (qsame L f m K g l)) ∧ Below w.heap.size w w' := by
  refine (qlike_walk A B n c k d f m g l _ w (Lib.hid fun W hb => qeq_any A B c d n k L K W (hA.row.later hb) (hB.row.later hb) hA.len hB.len (by have := hA.few; omega) (by have := hB.few; omega)) _ _ rfl rfl).mono ?_
  rintro e w' ⟨rfl, hb⟩
  exact ⟨rfl, hb⟩

set_option maxRecDepth 100000 in
set_option maxHeartbeats 4000000 in
theorem qsame_walk (A B : Option Addr) (n c k d : Nat) (f m g l : Int) (r : Bool) (w : World)
    (HE : Hid (∀ W, Below w.heap.size w W → Calls Try.prog 16 #[.slice A n c, .slice B k d] W fun e w' => e = .returned (.bool r) ∧ Below W.heap.size W w'))
    (b1 b2 : Bool) (h1 : (f == g) = b1) (h2 : (m == l) = b2) :
    Calls Try.prog 11 #[qv A n c f m, qv B k d g l] w fun e w' => e = .returned (.bool ((b1 && b2) && r)) ∧ Below w.heap.size w w' := by
  have HB : Hid (Below w.heap.size w (qboxes w A n c f m B k d g l)) := Lib.hid (ba (qbox_below w A n c f m) _)
  have HK1 : Hid (Blk (qboxes w A n c f m B k d g l) w.heap.size 24 (qcs A n c f m)) := Lib.hid ((qbox_blk w A n c f m).alloc _)
  have HK2 : Hid (Blk (qboxes w A n c f m B k d g l) (w.heap.size + 1) 24 (qcs B k d g l)) := Lib.hid (Blk.newAt (by simp) _ _)
  cases r
  all_goals
    cases b1
    all_goals
      cases b2
      all_goals
        go_enter Try.func11, Try.ntmps11
        go_wp2_with fail
        refine (HE.out _ HB.out).mono ?_
        rintro e1 w1 ⟨rfl, hb1⟩
        obtain ⟨⟨q0, q1, q2⟩, _⟩ := qcells (HK1.out.below hb1)
        obtain ⟨⟨r0, r1, r2⟩, _⟩ := qcells (HK2.out.below hb1)
        have hB1 := bt HB.out hb1
        go_wp2
        go_ret
        exact ⟨rfl, hB1⟩

/-- The reference's Same, of any two rings that can be read. -/
theorem qsame_any (A B : Option Addr) (n c k d : Nat) (f m g l : Int) (L K : List (List UInt8)) (w : World) (hA : QM w A n c L) (hB : QM w B k d K) :
    Calls Try.prog 11 #[qv A n c f m, qv B k d g l] w fun e w' => e = .returned (.bool (qsame L f m K g l)) ∧ Below w.heap.size w w' := by
  refine (qsame_walk A B n c k d f m g l _ w (Lib.hid fun W hb => qtexts_any A B c d n k L K W (hA.row.later hb) (hB.row.later hb) hA.len hB.len (by have := hA.few; omega) (by have := hB.few; omega)) _ _ rfl rfl).mono ?_
  rintro e w' ⟨rfl, hb⟩
  exact ⟨rfl, hb⟩
theorem qsame_none (W : World) : Calls Try.prog 11 #[qv none 0 0 0 0, qv none 0 0 0 0] W fun e w' => e = .returned (.bool true) ∧ Below W.heap.size W w' := by
  have := qsame_any none none 0 0 0 0 0 0 0 0 [] [] W (QM.none W) (QM.none W)
  rwa [qsame_refl] at this
end Go.Proofs.Ytnehodipblabbaa
