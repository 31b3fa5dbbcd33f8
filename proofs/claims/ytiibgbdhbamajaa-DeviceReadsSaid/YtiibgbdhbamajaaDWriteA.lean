/- The contracts of Write and New. -/
import Derived.Test.YtiibgbdhbamajaaDCrash
import Derived.Test.YtiibgbdhbamajaaDRef
namespace Go.Proofs.Ytiibgbdhbamajaa
open Go.RowKit

set_option maxRecDepth 100000 in
set_option maxHeartbeats 4000000 in
theorem write_bad (A B : Option Addr) (c d n m : Nat) (S : List (List UInt8)) (C : List PutL) (k : Int) (t : List UInt8) (w : World) (hA : SR w A S) (hB : PR w B C) (hn : S.length = n) (hm : C.length = m) (hr : rightB S C = false) :
    Calls Try.prog 14 #[dv A n c B m d, .int .i64 k, sv t] w fun e w' => e = .returned (.tuple #[dv none 0 0 none 0 0, .int .i64 1]) ∧ Below w.heap.size w w' := by
  have HR := Lib.hid (fun W (hb : Below w.heap.size w W) => right_any A B c d n m S C W (hA.later hb) (hB.later hb) hn hm)
  rw [hr] at HR
  clear hA hB hn hm hr
  have hB0 : Below w.heap.size w ((w.alloc (.cells #[.slice A n c, .slice B m d] 25)).alloc (.cells #[.slice none 0 0, .slice none 0 0] 25)) := ba (ba (Below.refl _ _) _) _
  have k0 : Blk ((w.alloc (.cells #[.slice A n c, .slice B m d] 25)).alloc (.cells #[.slice none 0 0, .slice none 0 0] 25)) w.heap.size 25 #[.slice A n c, .slice B m d] := (Blk.new w _ _).alloc _
  have k1 : Blk ((w.alloc (.cells #[.slice A n c, .slice B m d] 25)).alloc (.cells #[.slice none 0 0, .slice none 0 0] 25)) (w.heap.size + 1) 25 #[.slice none 0 0, .slice none 0 0] := Blk.newAt (by simp) _ _
  have hz : ((w.alloc (.cells #[.slice A n c, .slice B m d] 25)).alloc (.cells #[.slice none 0 0, .slice none 0 0] 25)).heap.size = w.heap.size + 2 := by simp
  go_enter Try.func14, Try.ntmps14
  go_wp2_with fail
  refine (HR.out _ hB0).mono ?_
  rintro e w1 ⟨rfl, hb1⟩
  have K1 := k1.below hb1
  have HB1 := bt hB0 hb1
  obtain ⟨_, _, q2, q3⟩ := dcells K1
  obtain ⟨q0, q1, _, _⟩ := dcells K1
  go_wp2_with fail
  have KK := (K1.set_ 0 (.slice none 0 0)).set_ 1 (.slice none 0 0)
  refine bodyPost_ret (dev_result rfl KK) rfl ?_
  exact ⟨rfl, bs (bs HB1 (by omega) _) (by omega) _⟩

set_option maxRecDepth 100000 in
set_option maxHeartbeats 4000000 in
theorem write_range (A B : Option Addr) (c d n m : Nat) (S : List (List UInt8)) (C : List PutL) (k : Int) (t : List UInt8) (w : World) (hA : SR w A S) (hB : PR w B C) (hn : S.length = n) (hm : C.length = m) (hr : rightB S C = true) (hh : hasB n k = false) :
    Calls Try.prog 14 #[dv A n c B m d, .int .i64 k, sv t] w fun e w' => e = .returned (.tuple #[dv none 0 0 none 0 0, .int .i64 2]) ∧ Below w.heap.size w w' := by
  have HR := Lib.hid (fun W (hb : Below w.heap.size w W) => right_any A B c d n m S C W (hA.later hb) (hB.later hb) hn hm)
  rw [hr] at HR
  have HH := Lib.hid (fun W => has_any A B n c m d k W)
  rw [hh] at HH
  clear hA hB hn hm hr hh
  have hB0 : Below w.heap.size w ((w.alloc (.cells #[.slice A n c, .slice B m d] 25)).alloc (.cells #[.slice none 0 0, .slice none 0 0] 25)) := ba (ba (Below.refl _ _) _) _
  have k0 : Blk ((w.alloc (.cells #[.slice A n c, .slice B m d] 25)).alloc (.cells #[.slice none 0 0, .slice none 0 0] 25)) w.heap.size 25 #[.slice A n c, .slice B m d] := (Blk.new w _ _).alloc _
  have k1 : Blk ((w.alloc (.cells #[.slice A n c, .slice B m d] 25)).alloc (.cells #[.slice none 0 0, .slice none 0 0] 25)) (w.heap.size + 1) 25 #[.slice none 0 0, .slice none 0 0] := Blk.newAt (by simp) _ _
  have hz : ((w.alloc (.cells #[.slice A n c, .slice B m d] 25)).alloc (.cells #[.slice none 0 0, .slice none 0 0] 25)).heap.size = w.heap.size + 2 := by simp
  go_enter Try.func14, Try.ntmps14
  go_wp2_with fail
  refine (HR.out _ hB0).mono ?_
  rintro e w1 ⟨rfl, hb1⟩
  obtain ⟨q0, q1, _, _⟩ := dcells (k0.below hb1)
  go_wp2_with fail
  refine (HH.out _).mono ?_
  rintro e w2 ⟨rfl, hb2⟩
  clear q0 q1
  have K1 := (k1.below hb1).below hb2
  have HB1 := bt (bt hB0 hb1) hb2
  obtain ⟨_, _, q2, q3⟩ := dcells K1
  obtain ⟨q0, q1, _, _⟩ := dcells K1
  go_wp2_with fail
  have KK := (K1.set_ 0 (.slice none 0 0)).set_ 1 (.slice none 0 0)
  refine bodyPost_ret (dev_result rfl KK) rfl ?_
  exact ⟨rfl, bs (bs HB1 (by omega) _) (by omega) _⟩

set_option maxRecDepth 100000 in
set_option maxHeartbeats 4000000 in
theorem write_size (A B : Option Addr) (c d n m : Nat) (S : List (List UInt8)) (C : List PutL) (k : Int) (t : List UInt8) (w : World) (hA : SR w A S) (hB : PR w B C) (hn : S.length = n) (hm : C.length = m) (hr : rightB S C = true) (hh : hasB n k = true) (ht : ¬ t.length ≤ 128) :
    Calls Try.prog 14 #[dv A n c B m d, .int .i64 k, sv t] w fun e w' => e = .returned (.tuple #[dv none 0 0 none 0 0, .int .i64 4]) ∧ Below w.heap.size w w' := by
  have HR := Lib.hid (fun W (hb : Below w.heap.size w W) => right_any A B c d n m S C W (hA.later hb) (hB.later hb) hn hm)
  rw [hr] at HR
  have HH := Lib.hid (fun W => has_any A B n c m d k W)
  rw [hh] at HH
  have HF := Lib.hid (fun W => fits_any t W)
  rw [decide_eq_false ht] at HF
  clear hA hB hn hm hr hh ht
  have hB0 : Below w.heap.size w ((w.alloc (.cells #[.slice A n c, .slice B m d] 25)).alloc (.cells #[.slice none 0 0, .slice none 0 0] 25)) := ba (ba (Below.refl _ _) _) _
  have k0 : Blk ((w.alloc (.cells #[.slice A n c, .slice B m d] 25)).alloc (.cells #[.slice none 0 0, .slice none 0 0] 25)) w.heap.size 25 #[.slice A n c, .slice B m d] := (Blk.new w _ _).alloc _
  have k1 : Blk ((w.alloc (.cells #[.slice A n c, .slice B m d] 25)).alloc (.cells #[.slice none 0 0, .slice none 0 0] 25)) (w.heap.size + 1) 25 #[.slice none 0 0, .slice none 0 0] := Blk.newAt (by simp) _ _
  have hz : ((w.alloc (.cells #[.slice A n c, .slice B m d] 25)).alloc (.cells #[.slice none 0 0, .slice none 0 0] 25)).heap.size = w.heap.size + 2 := by simp
  go_enter Try.func14, Try.ntmps14
  go_wp2_with fail
  refine (HR.out _ hB0).mono ?_
  rintro e w1 ⟨rfl, hb1⟩
  obtain ⟨q0, q1, _, _⟩ := dcells (k0.below hb1)
  go_wp2_with fail
  refine (HH.out _).mono ?_
  rintro e w2 ⟨rfl, hb2⟩
  clear q0 q1
  have K1 := (k1.below hb1).below hb2
  have HB1 := bt (bt hB0 hb1) hb2
  go_wp2_with fail
  refine (HF.out _).mono ?_
  rintro e w3 ⟨rfl, rfl⟩
  obtain ⟨_, _, q2, q3⟩ := dcells K1
  obtain ⟨q0, q1, _, _⟩ := dcells K1
  go_wp2_with fail
  have KK := (K1.set_ 0 (.slice none 0 0)).set_ 1 (.slice none 0 0)
  refine bodyPost_ret (dev_result rfl KK) rfl ?_
  exact ⟨rfl, bs (bs HB1 (by omega) _) (by omega) _⟩

set_option maxRecDepth 100000 in
set_option maxHeartbeats 4000000 in
theorem write_space (A B : Option Addr) (c d n : Nat) (S : List (List UInt8)) (C : List PutL) (k : Int) (t : List UInt8) (w : World) (hA : SR w A S) (hB : PR w B C) (hn : S.length = n) (hm : C.length = 60) (hr : rightB S C = true) (hh : hasB n k = true) (ht : t.length ≤ 128) :
    Calls Try.prog 14 #[dv A n c B 60 d, .int .i64 k, sv t] w fun e w' => e = .returned (.tuple #[dv none 0 0 none 0 0, .int .i64 6]) ∧ Below w.heap.size w w' := by
  have HR := Lib.hid (fun W (hb : Below w.heap.size w W) => right_any A B c d n 60 S C W (hA.later hb) (hB.later hb) hn hm)
  rw [hr] at HR
  have HH := Lib.hid (fun W => has_any A B n c 60 d k W)
  rw [hh] at HH
  have HF := Lib.hid (fun W => fits_any t W)
  rw [decide_eq_true ht] at HF
  clear hA hB hn hm hr hh ht
  have hB0 : Below w.heap.size w ((w.alloc (.cells #[.slice A n c, .slice B 60 d] 25)).alloc (.cells #[.slice none 0 0, .slice none 0 0] 25)) := ba (ba (Below.refl _ _) _) _
  have k0 : Blk ((w.alloc (.cells #[.slice A n c, .slice B 60 d] 25)).alloc (.cells #[.slice none 0 0, .slice none 0 0] 25)) w.heap.size 25 #[.slice A n c, .slice B 60 d] := (Blk.new w _ _).alloc _
  have k1 : Blk ((w.alloc (.cells #[.slice A n c, .slice B 60 d] 25)).alloc (.cells #[.slice none 0 0, .slice none 0 0] 25)) (w.heap.size + 1) 25 #[.slice none 0 0, .slice none 0 0] := Blk.newAt (by simp) _ _
  have hz : ((w.alloc (.cells #[.slice A n c, .slice B 60 d] 25)).alloc (.cells #[.slice none 0 0, .slice none 0 0] 25)).heap.size = w.heap.size + 2 := by simp
  go_enter Try.func14, Try.ntmps14
  go_wp2_with fail
  refine (HR.out _ hB0).mono ?_
  rintro e w1 ⟨rfl, hb1⟩
  obtain ⟨q0, q1, _, _⟩ := dcells (k0.below hb1)
  go_wp2_with fail
  refine (HH.out _).mono ?_
  rintro e w2 ⟨rfl, hb2⟩
  clear q0 q1
  have K0 := (k0.below hb1).below hb2
  have K1 := (k1.below hb1).below hb2
  have HB1 := bt (bt hB0 hb1) hb2
  go_wp2_with fail
  refine (HF.out _).mono ?_
  rintro e w3 ⟨rfl, rfl⟩
  obtain ⟨r0, r1, _, _⟩ := dcells K0
  obtain ⟨_, _, q2, q3⟩ := dcells K1
  obtain ⟨q0, q1, _, _⟩ := dcells K1
  go_wp2_with fail
  have KK := (K1.set_ 0 (.slice none 0 0)).set_ 1 (.slice none 0 0)
  refine bodyPost_ret (dev_result rfl KK) rfl ?_
  exact ⟨rfl, bs (bs HB1 (by omega) _) (by omega) _⟩
end Go.Proofs.Ytiibgbdhbamajaa
