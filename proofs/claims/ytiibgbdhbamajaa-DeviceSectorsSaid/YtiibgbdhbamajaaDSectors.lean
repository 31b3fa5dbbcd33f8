/- DeviceSectors is true of every device, number and text, and leaves them as they were. -/
import Derived.Test.YtiibgbdhbamajaaDLawA
import Derived.Test.YtiibgbdhbamajaaDRefB
import Derived.Test.YtiibgbdhbamajaaDOpen
import Derived.Test.YtiibgbdhbamajaaDRef
import Derived.Deep.DeepCutAuto
import Derived.Deep.CutRange
namespace Go.Proofs.Ytiibgbdhbamajaa
open Go.ChangeShapes Go.WideShapes Go.ChangeAt Go.RowKit Go.Joins Go.Deep

set_option maxRecDepth 100000 in
set_option maxHeartbeats 4000000 in
theorem sec_bad (A B : Option Addr) (ca cb n0 m0 n m : Nat) (S : List (List UInt8)) (C : List PutL) (k : Int) (t : List UInt8) (w : World) (hA : SR w A S) (hB : PR w B C) (hn : S.length = n) (hm : C.length = m) (hn0 : min n0 70 = n) (hm0 : min m0 65 = m) (hca : n0 ≤ ca) (hcb : m0 ≤ cb) (hr : rightB S C = false) :
    Calls Try.prog 4 #[dv A n0 ca B m0 cb, .int .i64 k, sv t] w fun e w' => e = .returned (.bool true) ∧ Below w.heap.size w w' := by
  have HF := Lib.hid (fun W => few_any A B ca cb n0 m0 W hca hcb)
  rw [hn0, hm0] at HF
  have HAL := Lib.hid alive_any
  have HWR := Lib.hid (fun W (hb : Below w.heap.size w W) => write_bad A B ca cb n m S C k t W (hA.later hb) (hB.later hb) hn hm hr)
  have HRE := Lib.hid (fun W (hb : Below w.heap.size w W) => read_bad A B ca cb n m S C k W (hA.later hb) (hB.later hb) hn hm hr)
  have hwy : whyD S C k = 1 := by simp [whyD, hr]
  have HWY := Lib.hid (fun W (hb : Below w.heap.size w W) => rwhy_any A B ca cb n m S C k W (hA.later hb) (hB.later hb) hn hm)
  rw [hwy] at HWY
  have HSM := Lib.hid (fun W => dsame_any none none none none 0 0 0 0 0 0 0 0 [] [] [] [] W (SR.nil _ _) (SR.nil _ _) (PR.nil _ _) (PR.nil _ _) rfl rfl rfl rfl (by omega) (by omega))
  clear hA hB hn hm hn0 hm0 hca hcb hwy
  have k0 := Blk.new w 25 #[.slice A n0 ca, .slice B m0 cb]
  go_enter Try.func4, Try.ntmps4
  go_wp2_with fail
  refine (HF.out _).mono ?_
  rintro e w1 ⟨rfl, hb1⟩
  have k1 := k0.below hb1
  have hB1 := bt (ba (Below.refl w.heap.size w) (.cells #[.slice A n0 ca, .slice B m0 cb] 25)) hb1
  obtain ⟨_, _, f0, f1⟩ := dcells k1
  obtain ⟨c0, c1, _, _⟩ := dcells k1
  go_upto_region 2 with fail
  have k2 : Hid (Blk _ w.heap.size 25 #[.slice A n ca, .slice B m cb]) := Lib.hid ((k1.set_ 0 (.slice A n ca)).set_ 1 (.slice B m cb))
  have hB2 := Lib.hid (bs (bs hB1 (b := w.heap.size) (o := 0) (by omega) (.slice A n ca)) (b := w.heap.size) (o := 1) (by omega) (.slice B m cb))
  generalize (w1.setCell ⟨w.heap.size, 0, none⟩ (.slice A n ca)).setCell ⟨w.heap.size, 1, none⟩ (.slice B m cb) = w2 at k2 hB2 ⊢
  clear k0 k1 hb1 hB1 f0 f1 c0 c1
  obtain ⟨c0, c1, _, _⟩ := dcells k2.out
  go_wp2_with fail
  refine (HWR.out _ hB2.out).mono ?_
  rintro e w3 ⟨rfl, hb3⟩
  have k3 := Lib.hid ((k2.out.below hb3).alloc (.cells #[.slice none 0 0, .slice none 0 0] 25))
  have k4 := Lib.hid (Blk.new w3 25 #[.slice none 0 0, .slice none 0 0])
  have hB3 := Lib.hid (ba (bt hB2.out hb3) (.cells #[.slice none 0 0, .slice none 0 0] 25))
  clear c0 c1 k2 hb3 hB2
  obtain ⟨c0, c1, _, _⟩ := dcells k3.out
  go_wp2_with fail
  refine (HRE.out _ hB3.out).mono ?_
  rintro e w4 ⟨rfl, hb4⟩
  have k5 := Lib.hid (k3.out.below hb4)
  have k6 := Lib.hid (k4.out.below hb4)
  have hB4 := Lib.hid (bt hB3.out hb4)
  have hq4 := Lib.hid hb4
  clear c0 c1 k3 k4 hb4 hB3
  obtain ⟨c0, c1, _, _⟩ := dcells k5.out
  go_wp2_with fail
  refine (HWY.out _ hB4.out).mono ?_
  rintro e w5 ⟨rfl, hb5⟩
  have k7 := Lib.hid (k5.out.below hb5)
  have k8 := Lib.hid (k6.out.below hb5)
  have hB5 := Lib.hid (bt hB4.out hb5)
  have hq5 := Lib.hid (bt hq4.out hb5)
  clear c0 c1 k5 k6 hb5 hB4 hq4
  go_wp2_with fail
  refine (HAL.out _).mono ?_
  rintro e w6 ⟨rfl, hb6⟩
  have k9 := Lib.hid (k8.out.below hb6)
  have hB6 := Lib.hid (bt hB5.out hb6)
  obtain ⟨c0, c1, _, _⟩ := dcells k9.out
  clear k7 k8 hb6 hB5
  go_wp2_with fail
  refine (HSM.out _).mono ?_
  rintro e w7 ⟨rfl, hb7⟩
  go_wp2_with fail
  go_ret
  exact ⟨rfl, bt hB6.out hb7⟩

set_option maxRecDepth 100000 in
set_option maxHeartbeats 4000000 in
theorem sec_range (A B : Option Addr) (ca cb n0 m0 n m : Nat) (S : List (List UInt8)) (C : List PutL) (k : Int) (t : List UInt8) (w : World) (hA : SR w A S) (hB : PR w B C) (hn : S.length = n) (hm : C.length = m) (hn0 : min n0 70 = n) (hm0 : min m0 65 = m) (hca : n0 ≤ ca) (hcb : m0 ≤ cb) (hr : rightB S C = true) (hh : hasB n k = false) :
    Calls Try.prog 4 #[dv A n0 ca B m0 cb, .int .i64 k, sv t] w fun e w' => e = .returned (.bool true) ∧ Below w.heap.size w w' := by
  have HF := Lib.hid (fun W => few_any A B ca cb n0 m0 W hca hcb)
  rw [hn0, hm0] at HF
  have HAL := Lib.hid alive_any
  have HWR := Lib.hid (fun W (hb : Below w.heap.size w W) => write_range A B ca cb n m S C k t W (hA.later hb) (hB.later hb) hn hm hr hh)
  have HRE := Lib.hid (fun W (hb : Below w.heap.size w W) => read_range A B ca cb n m S C k W (hA.later hb) (hB.later hb) hn hm hr hh)
  have hwy : whyD S C k = 2 := by simp [whyD, hr, hn, hh]
  have HWY := Lib.hid (fun W (hb : Below w.heap.size w W) => rwhy_any A B ca cb n m S C k W (hA.later hb) (hB.later hb) hn hm)
  rw [hwy] at HWY
  have HSM := Lib.hid (fun W => dsame_any none none none none 0 0 0 0 0 0 0 0 [] [] [] [] W (SR.nil _ _) (SR.nil _ _) (PR.nil _ _) (PR.nil _ _) rfl rfl rfl rfl (by omega) (by omega))
  clear hA hB hn hm hn0 hm0 hca hcb hwy
  have k0 := Blk.new w 25 #[.slice A n0 ca, .slice B m0 cb]
  go_enter Try.func4, Try.ntmps4
  go_wp2_with fail
  refine (HF.out _).mono ?_
  rintro e w1 ⟨rfl, hb1⟩
  have k1 := k0.below hb1
  have hB1 := bt (ba (Below.refl w.heap.size w) (.cells #[.slice A n0 ca, .slice B m0 cb] 25)) hb1
  obtain ⟨_, _, f0, f1⟩ := dcells k1
  obtain ⟨c0, c1, _, _⟩ := dcells k1
  go_upto_region 2 with fail
  have k2 : Hid (Blk _ w.heap.size 25 #[.slice A n ca, .slice B m cb]) := Lib.hid ((k1.set_ 0 (.slice A n ca)).set_ 1 (.slice B m cb))
  have hB2 := Lib.hid (bs (bs hB1 (b := w.heap.size) (o := 0) (by omega) (.slice A n ca)) (b := w.heap.size) (o := 1) (by omega) (.slice B m cb))
  generalize (w1.setCell ⟨w.heap.size, 0, none⟩ (.slice A n ca)).setCell ⟨w.heap.size, 1, none⟩ (.slice B m cb) = w2 at k2 hB2 ⊢
  clear k0 k1 hb1 hB1 f0 f1 c0 c1
  obtain ⟨c0, c1, _, _⟩ := dcells k2.out
  go_wp2_with fail
  refine (HWR.out _ hB2.out).mono ?_
  rintro e w3 ⟨rfl, hb3⟩
  have k3 := Lib.hid ((k2.out.below hb3).alloc (.cells #[.slice none 0 0, .slice none 0 0] 25))
  have k4 := Lib.hid (Blk.new w3 25 #[.slice none 0 0, .slice none 0 0])
  have hB3 := Lib.hid (ba (bt hB2.out hb3) (.cells #[.slice none 0 0, .slice none 0 0] 25))
  clear c0 c1 k2 hb3 hB2
  obtain ⟨c0, c1, _, _⟩ := dcells k3.out
  go_wp2_with fail
  refine (HRE.out _ hB3.out).mono ?_
  rintro e w4 ⟨rfl, hb4⟩
  have k5 := Lib.hid (k3.out.below hb4)
  have k6 := Lib.hid (k4.out.below hb4)
  have hB4 := Lib.hid (bt hB3.out hb4)
  have hq4 := Lib.hid hb4
  clear c0 c1 k3 k4 hb4 hB3
  obtain ⟨c0, c1, _, _⟩ := dcells k5.out
  go_wp2_with fail
  refine (HWY.out _ hB4.out).mono ?_
  rintro e w5 ⟨rfl, hb5⟩
  have k7 := Lib.hid (k5.out.below hb5)
  have k8 := Lib.hid (k6.out.below hb5)
  have hB5 := Lib.hid (bt hB4.out hb5)
  have hq5 := Lib.hid (bt hq4.out hb5)
  clear c0 c1 k5 k6 hb5 hB4 hq4
  go_wp2_with fail
  refine (HAL.out _).mono ?_
  rintro e w6 ⟨rfl, hb6⟩
  have k9 := Lib.hid (k8.out.below hb6)
  have hB6 := Lib.hid (bt hB5.out hb6)
  obtain ⟨c0, c1, _, _⟩ := dcells k9.out
  clear k7 k8 hb6 hB5
  go_wp2_with fail
  refine (HSM.out _).mono ?_
  rintro e w7 ⟨rfl, hb7⟩
  go_wp2_with fail
  go_ret
  exact ⟨rfl, bt hB6.out hb7⟩

set_option maxRecDepth 100000 in
set_option maxHeartbeats 4000000 in
theorem sec_size (A B : Option Addr) (ca cb n0 m0 n m : Nat) (S : List (List UInt8)) (C : List PutL) (k : Nat) (t : List UInt8) (w : World) (hA : SR w A S) (hB : PR w B C) (hn : S.length = n) (hm : C.length = m) (hn0 : min n0 70 = n) (hm0 : min m0 65 = m) (hca : n0 ≤ ca) (hcb : m0 ≤ cb) (hr : rightB S C = true) (hk : k < n) (ht : ¬ t.length ≤ 128) :
    Calls Try.prog 4 #[dv A n0 ca B m0 cb, .int .i64 (k : Int), sv t] w fun e w' => e = .returned (.bool true) ∧ Below w.heap.size w w' := by
  have HF := Lib.hid (fun W => few_any A B ca cb n0 m0 W hca hcb)
  rw [hn0, hm0] at HF
  have HAL := Lib.hid alive_any
  obtain ⟨s1, s2, s3, _, _⟩ := rightB_yes hr
  rw [hn] at s1 s2
  rw [hm] at s3
  have hh : hasB n (k : Int) = true := (hasB_iff n (k : Int)).2 ⟨by omega, by omega⟩
  have HWR := Lib.hid (fun W (hb : Below w.heap.size w W) => write_size A B ca cb n m S C (k : Int) t W (hA.later hb) (hB.later hb) hn hm hr hh ht)
  have HSM := Lib.hid (fun W => dsame_any none none none none 0 0 0 0 0 0 0 0 [] [] [] [] W (SR.nil _ _) (SR.nil _ _) (PR.nil _ _) (PR.nil _ _) rfl rfl rfl rfl (by omega) (by omega))

  have HRE := Lib.hid (fun W (hb : Below w.heap.size w W) => read_yes A B ca cb n m S C k W (hA.later hb) (hB.later hb) hn hm hr hk)
  have HRR := Lib.hid (fun W (hb : Below w.heap.size w W) => rread_any A B ca cb n m S C k W (hA.later hb) (hB.later hb) hn hm hk (by omega) (by omega))
  have hwy : whyD S C (k : Int) = 0 := by simp [whyD, hr, hn, hh]
  have HWY := Lib.hid (fun W (hb : Below w.heap.size w W) => rwhy_any A B ca cb n m S C (k : Int) W (hA.later hb) (hB.later hb) hn hm)
  rw [hwy] at HWY
  generalize readD S C k = y at HRE HRR
  have hz := dsize t
  obtain ⟨z, hz2⟩ : ∃ z, t.length = z := ⟨_, rfl⟩
  rw [hz2] at hz ht
  have i1 : 128 < (z : Int) := by omega
  clear hz2 ht hn hm
  clear hA hB hn0 hm0 hca hcb hwy hr hh hk s1 s2
  have k0 := Blk.new w 25 #[.slice A n0 ca, .slice B m0 cb]
  go_enter Try.func4, Try.ntmps4
  go_wp2_with fail
  refine (HF.out _).mono ?_
  rintro e w1 ⟨rfl, hb1⟩
  have k1 := k0.below hb1
  have hB1 := bt (ba (Below.refl w.heap.size w) (.cells #[.slice A n0 ca, .slice B m0 cb] 25)) hb1
  obtain ⟨_, _, f0, f1⟩ := dcells k1
  obtain ⟨c0, c1, _, _⟩ := dcells k1
  go_upto_region 2 with fail
  have k2 : Hid (Blk _ w.heap.size 25 #[.slice A n ca, .slice B m cb]) := Lib.hid ((k1.set_ 0 (.slice A n ca)).set_ 1 (.slice B m cb))
  have hB2 := Lib.hid (bs (bs hB1 (b := w.heap.size) (o := 0) (by omega) (.slice A n ca)) (b := w.heap.size) (o := 1) (by omega) (.slice B m cb))
  generalize (w1.setCell ⟨w.heap.size, 0, none⟩ (.slice A n ca)).setCell ⟨w.heap.size, 1, none⟩ (.slice B m cb) = w2 at k2 hB2 ⊢
  clear k0 k1 hb1 hB1 f0 f1 c0 c1
  obtain ⟨c0, c1, _, _⟩ := dcells k2.out
  go_wp2_with fail
  refine (HWR.out _ hB2.out).mono ?_
  rintro e w3 ⟨rfl, hb3⟩
  have k3 := Lib.hid ((k2.out.below hb3).alloc (.cells #[.slice none 0 0, .slice none 0 0] 25))
  have k4 := Lib.hid (Blk.new w3 25 #[.slice none 0 0, .slice none 0 0])
  have hB3 := Lib.hid (ba (bt hB2.out hb3) (.cells #[.slice none 0 0, .slice none 0 0] 25))
  clear c0 c1 k2 hb3 hB2
  obtain ⟨c0, c1, _, _⟩ := dcells k3.out
  go_wp2_with fail
  refine (HRE.out _ hB3.out).mono ?_
  rintro e w4 ⟨rfl, hb4⟩
  have k5 := Lib.hid (k3.out.below hb4)
  have k6 := Lib.hid (k4.out.below hb4)
  have hB4 := Lib.hid (bt hB3.out hb4)
  have hq4 := Lib.hid hb4
  clear c0 c1 k3 k4 hb4 hB3
  obtain ⟨c0, c1, _, _⟩ := dcells k5.out
  go_wp2_with fail
  refine (HWY.out _ hB4.out).mono ?_
  rintro e w5 ⟨rfl, hb5⟩
  have k7 := Lib.hid (k5.out.below hb5)
  have k8 := Lib.hid (k6.out.below hb5)
  have hB5 := Lib.hid (bt hB4.out hb5)
  have hq5 := Lib.hid (bt hq4.out hb5)
  clear c0 c1 k5 k6 hb5 hB4 hq4
  obtain ⟨c0, c1, _, _⟩ := dcells k7.out
  go_wp2_with fail
  refine (HRR.out _ hB5.out).mono ?_
  rintro e w6 ⟨rfl, hb6⟩
  have k9 := Lib.hid (k7.out.below hb6)
  have ka := Lib.hid (k8.out.below hb6)
  have hB6 := Lib.hid (bt hB5.out hb6)
  have hq6 := Lib.hid (bt hq5.out hb6)
  clear c0 c1 k7 k8 hb6 hB5 hq5
  go_wp2_with fail
  refine (HAL.out _).mono ?_
  rintro e w7 ⟨rfl, hb7⟩
  have kb := Lib.hid (k9.out.below hb7)
  have kc := Lib.hid (ka.out.below hb7)
  have hB7 := Lib.hid (bt hB6.out hb7)
  have hq7 := Lib.hid (bt hq6.out hb7)
  obtain ⟨c0, c1, _, _⟩ := dcells kc.out
  obtain ⟨d0, d1, _, _⟩ := dcells kb.out
  clear k9 ka hb7 hB6 hq6
  go_wp2_with fail
  refine (HSM.out _).mono ?_
  rintro e w8 ⟨rfl, hb8⟩
  go_wp2_with fail
  go_ret
  exact ⟨rfl, bt hB7.out hb8⟩

set_option maxRecDepth 100000 in
set_option maxHeartbeats 4000000 in
theorem sec_space (A B : Option Addr) (ca cb n0 m0 n m : Nat) (S : List (List UInt8)) (C : List PutL) (k : Nat) (t : List UInt8) (w : World) (hA : SR w A S) (hB : PR w B C) (hn : S.length = n) (hm : C.length = m) (hn0 : min n0 70 = n) (hm0 : min m0 65 = m) (hca : n0 ≤ ca) (hcb : m0 ≤ cb) (hr : rightB S C = true) (hk : k < n) (ht : t.length ≤ 128) (hm6 : m = 60) :
    Calls Try.prog 4 #[dv A n0 ca B m0 cb, .int .i64 (k : Int), sv t] w fun e w' => e = .returned (.bool true) ∧ Below w.heap.size w w' := by
  have HF := Lib.hid (fun W => few_any A B ca cb n0 m0 W hca hcb)
  rw [hn0, hm0] at HF
  have HAL := Lib.hid alive_any
  obtain ⟨s1, s2, s3, _, _⟩ := rightB_yes hr
  rw [hn] at s1 s2
  rw [hm] at s3
  have hh : hasB n (k : Int) = true := (hasB_iff n (k : Int)).2 ⟨by omega, by omega⟩
  subst hm6
  have HWR := Lib.hid (fun W (hb : Below w.heap.size w W) => write_space A B ca cb n S C (k : Int) t W (hA.later hb) (hB.later hb) hn hm hr hh ht)
  have HSM := Lib.hid (fun W => dsame_any none none none none 0 0 0 0 0 0 0 0 [] [] [] [] W (SR.nil _ _) (SR.nil _ _) (PR.nil _ _) (PR.nil _ _) rfl rfl rfl rfl (by omega) (by omega))

  have HRE := Lib.hid (fun W (hb : Below w.heap.size w W) => read_yes A B ca cb n 60 S C k W (hA.later hb) (hB.later hb) hn hm hr hk)
  have HRR := Lib.hid (fun W (hb : Below w.heap.size w W) => rread_any A B ca cb n 60 S C k W (hA.later hb) (hB.later hb) hn hm hk (by omega) (by omega))
  have hwy : whyD S C (k : Int) = 0 := by simp [whyD, hr, hn, hh]
  have HWY := Lib.hid (fun W (hb : Below w.heap.size w W) => rwhy_any A B ca cb n 60 S C (k : Int) W (hA.later hb) (hB.later hb) hn hm)
  rw [hwy] at HWY
  generalize readD S C k = y at HRE HRR
  have hz := dsize t
  obtain ⟨z, hz2⟩ : ∃ z, t.length = z := ⟨_, rfl⟩
  rw [hz2] at hz ht
  have i1 : (z : Int) ≤ 128 := by omega
  clear hz2 ht hn hm
  clear hA hB hn0 hm0 hca hcb hwy hr hh hk s1 s2
  have k0 := Blk.new w 25 #[.slice A n0 ca, .slice B m0 cb]
  go_enter Try.func4, Try.ntmps4
  go_wp2_with fail
  refine (HF.out _).mono ?_
  rintro e w1 ⟨rfl, hb1⟩
  have k1 := k0.below hb1
  have hB1 := bt (ba (Below.refl w.heap.size w) (.cells #[.slice A n0 ca, .slice B m0 cb] 25)) hb1
  obtain ⟨_, _, f0, f1⟩ := dcells k1
  obtain ⟨c0, c1, _, _⟩ := dcells k1
  go_upto_region 2 with fail
  have k2 : Hid (Blk _ w.heap.size 25 #[.slice A n ca, .slice B 60 cb]) := Lib.hid ((k1.set_ 0 (.slice A n ca)).set_ 1 (.slice B 60 cb))
  have hB2 := Lib.hid (bs (bs hB1 (b := w.heap.size) (o := 0) (by omega) (.slice A n ca)) (b := w.heap.size) (o := 1) (by omega) (.slice B 60 cb))
  generalize (w1.setCell ⟨w.heap.size, 0, none⟩ (.slice A n ca)).setCell ⟨w.heap.size, 1, none⟩ (.slice B 60 cb) = w2 at k2 hB2 ⊢
  clear k0 k1 hb1 hB1 f0 f1 c0 c1
  obtain ⟨c0, c1, _, _⟩ := dcells k2.out
  go_wp2_with fail
  refine (HWR.out _ hB2.out).mono ?_
  rintro e w3 ⟨rfl, hb3⟩
  have k3 := Lib.hid ((k2.out.below hb3).alloc (.cells #[.slice none 0 0, .slice none 0 0] 25))
  have k4 := Lib.hid (Blk.new w3 25 #[.slice none 0 0, .slice none 0 0])
  have hB3 := Lib.hid (ba (bt hB2.out hb3) (.cells #[.slice none 0 0, .slice none 0 0] 25))
  clear c0 c1 k2 hb3 hB2
  obtain ⟨c0, c1, _, _⟩ := dcells k3.out
  go_wp2_with fail
  refine (HRE.out _ hB3.out).mono ?_
  rintro e w4 ⟨rfl, hb4⟩
  have k5 := Lib.hid (k3.out.below hb4)
  have k6 := Lib.hid (k4.out.below hb4)
  have hB4 := Lib.hid (bt hB3.out hb4)
  have hq4 := Lib.hid hb4
  clear c0 c1 k3 k4 hb4 hB3
  obtain ⟨c0, c1, _, _⟩ := dcells k5.out
  go_wp2_with fail
  refine (HWY.out _ hB4.out).mono ?_
  rintro e w5 ⟨rfl, hb5⟩
  have k7 := Lib.hid (k5.out.below hb5)
  have k8 := Lib.hid (k6.out.below hb5)
  have hB5 := Lib.hid (bt hB4.out hb5)
  have hq5 := Lib.hid (bt hq4.out hb5)
  clear c0 c1 k5 k6 hb5 hB4 hq4
  obtain ⟨c0, c1, _, _⟩ := dcells k7.out
  go_wp2_with fail
  refine (HRR.out _ hB5.out).mono ?_
  rintro e w6 ⟨rfl, hb6⟩
  have k9 := Lib.hid (k7.out.below hb6)
  have ka := Lib.hid (k8.out.below hb6)
  have hB6 := Lib.hid (bt hB5.out hb6)
  have hq6 := Lib.hid (bt hq5.out hb6)
  clear c0 c1 k7 k8 hb6 hB5 hq5
  go_wp2_with fail
  refine (HAL.out _).mono ?_
  rintro e w7 ⟨rfl, hb7⟩
  have kb := Lib.hid (k9.out.below hb7)
  have kc := Lib.hid (ka.out.below hb7)
  have hB7 := Lib.hid (bt hB6.out hb7)
  have hq7 := Lib.hid (bt hq6.out hb7)
  obtain ⟨c0, c1, _, _⟩ := dcells kc.out
  obtain ⟨d0, d1, _, _⟩ := dcells kb.out
  clear k9 ka hb7 hB6 hq6
  go_wp2_with fail
  refine (HSM.out _).mono ?_
  rintro e w8 ⟨rfl, hb8⟩
  go_wp2_with fail
  go_ret
  exact ⟨rfl, bt hB7.out hb8⟩

set_option maxRecDepth 100000 in
set_option maxHeartbeats 4000000 in
theorem sec_yes (A B : Option Addr) (ca cb n0 m0 n m : Nat) (S : List (List UInt8)) (C : List PutL) (k : Nat) (t : List UInt8) (w : World) (hA : SR w A S) (hB : PR w B C) (hn : S.length = n) (hm : C.length = m) (hn0 : min n0 70 = n) (hm0 : min m0 65 = m) (hca : n0 ≤ ca) (hcb : m0 ≤ cb) (hr : rightB S C = true) (hk : k < n) (ht : t.length ≤ 128) (hm6 : m ≠ 60) (h0 : A = none → ca = 0) (h1 : B = none → cb = 0) :
    Calls Try.prog 4 #[dv A n0 ca B m0 cb, .int .i64 (k : Int), sv t] w fun e w' => e = .returned (.bool true) ∧ Below w.heap.size w w' := by
  have HF := Lib.hid (fun W => few_any A B ca cb n0 m0 W hca hcb)
  rw [hn0, hm0] at HF
  have HAL := Lib.hid alive_any
  obtain ⟨s1, s2, s3, _, _⟩ := rightB_yes hr
  rw [hn] at s1 s2
  rw [hm] at s3
  have hh : hasB n (k : Int) = true := (hasB_iff n (k : Int)).2 ⟨by omega, by omega⟩
  have HWR := Lib.hid (fun W (hb : Below w.heap.size w W) => write_yes A B ca cb n m S C (k : Int) t W (hA.later hb) (hB.later hb) hn hm hr hh ht hm6 h0 h1)
  have HRW := Lib.hid (fun W (hb : Below w.heap.size w W) => rwrite_any A B ca cb n m C (k : Int) t W (hB.later hb) hm h1 (by omega))
  have HSB : Hid (∀ W, Below w.heap.size w W → SR W A S) := Lib.hid (fun W hb => hA.later hb)
  have HSM : Hid (∀ (A1 B1 B2 : Option Addr) (c1 d1 d2 : Nat) (W : World), Below w.heap.size w W → SR W A1 S → PR W B1 (C ++ [((k : Int), t)]) → PR W B2 (C ++ [((k : Int), t)]) → Calls Try.prog 12 #[dv A1 n c1 B1 (m + 1) d1, dv A n ca B2 (m + 1) d2] W fun e w' => e = .returned (.bool true) ∧ Below W.heap.size W w') := Lib.hid (fun A1 B1 B2 c1 d1 d2 W hb h1 h2 h3 => by
    have := dsame_any A1 A B1 B2 c1 ca d1 d2 n n (m + 1) (m + 1) S S (C ++ [((k : Int), t)]) (C ++ [((k : Int), t)]) W h1 (HSB.out W hb) h2 h3 hn hn (by simp [hm]) (by simp [hm]) (by omega) (by omega)
    simpa using this)

  have HRE := Lib.hid (fun W (hb : Below w.heap.size w W) => read_yes A B ca cb n m S C k W (hA.later hb) (hB.later hb) hn hm hr hk)
  have HRR := Lib.hid (fun W (hb : Below w.heap.size w W) => rread_any A B ca cb n m S C k W (hA.later hb) (hB.later hb) hn hm hk (by omega) (by omega))
  have hwy : whyD S C (k : Int) = 0 := by simp [whyD, hr, hn, hh]
  have HWY := Lib.hid (fun W (hb : Below w.heap.size w W) => rwhy_any A B ca cb n m S C (k : Int) W (hA.later hb) (hB.later hb) hn hm)
  rw [hwy] at HWY
  generalize readD S C k = y at HRE HRR
  have hz := dsize t
  obtain ⟨z, hz2⟩ : ∃ z, t.length = z := ⟨_, rfl⟩
  rw [hz2] at hz ht
  have i1 : (z : Int) ≤ 128 := by omega
  have i2 : ((m : Int) == 60) = false := by simp; omega
  have i3 : (m == 60) = false := by simp; omega
  generalize C ++ [((k : Int), t)] = C2 at HWR HRW HSM
  clear hz2 ht hm6 h0 h1 s3
  clear hA hB hn0 hm0 hca hcb hwy hr hh hk s1 s2
  have k0 := Blk.new w 25 #[.slice A n0 ca, .slice B m0 cb]
  go_enter Try.func4, Try.ntmps4
  go_wp2_with fail
  refine (HF.out _).mono ?_
  rintro e w1 ⟨rfl, hb1⟩
  have k1 := k0.below hb1
  have hB1 := bt (ba (Below.refl w.heap.size w) (.cells #[.slice A n0 ca, .slice B m0 cb] 25)) hb1
  obtain ⟨_, _, f0, f1⟩ := dcells k1
  obtain ⟨c0, c1, _, _⟩ := dcells k1
  go_upto_region 2 with fail
  have k2 : Hid (Blk _ w.heap.size 25 #[.slice A n ca, .slice B m cb]) := Lib.hid ((k1.set_ 0 (.slice A n ca)).set_ 1 (.slice B m cb))
  have hB2 := Lib.hid (bs (bs hB1 (b := w.heap.size) (o := 0) (by omega) (.slice A n ca)) (b := w.heap.size) (o := 1) (by omega) (.slice B m cb))
  generalize (w1.setCell ⟨w.heap.size, 0, none⟩ (.slice A n ca)).setCell ⟨w.heap.size, 1, none⟩ (.slice B m cb) = w2 at k2 hB2 ⊢
  clear k0 k1 hb1 hB1 f0 f1 c0 c1
  obtain ⟨c0, c1, _, _⟩ := dcells k2.out
  go_wp2_with fail
  refine (HWR.out _ hB2.out).mono ?_
  rintro e w3 ⟨A3, c3, B3, d3, rfl, hs3, hp3, hb3⟩
  have k3 := Lib.hid ((k2.out.below hb3).alloc (.cells #[.slice A3 n c3, .slice B3 (m + 1) d3] 25))
  have k4 := Lib.hid (Blk.new w3 25 #[.slice A3 n c3, .slice B3 (m + 1) d3])
  have hB3 := Lib.hid (ba (bt hB2.out hb3) (.cells #[.slice A3 n c3, .slice B3 (m + 1) d3] 25))
  have hS3 := Lib.hid (hs3.later (ba (Below.refl _ _) (.cells #[.slice A3 n c3, .slice B3 (m + 1) d3] 25)))
  have hP3 := Lib.hid (hp3.later (ba (Below.refl _ _) (.cells #[.slice A3 n c3, .slice B3 (m + 1) d3] 25)))
  clear hs3 hp3
  clear c0 c1 k2 hb3 hB2
  obtain ⟨c0, c1, _, _⟩ := dcells k3.out
  go_wp2_with fail
  refine (HRE.out _ hB3.out).mono ?_
  rintro e w4 ⟨rfl, hb4⟩
  have k5 := Lib.hid (k3.out.below hb4)
  have k6 := Lib.hid (k4.out.below hb4)
  have hB4 := Lib.hid (bt hB3.out hb4)
  have hq4 := Lib.hid hb4
  clear c0 c1 k3 k4 hb4 hB3
  obtain ⟨c0, c1, _, _⟩ := dcells k5.out
  go_wp2_with fail
  refine (HWY.out _ hB4.out).mono ?_
  rintro e w5 ⟨rfl, hb5⟩
  have k7 := Lib.hid (k5.out.below hb5)
  have k8 := Lib.hid (k6.out.below hb5)
  have hB5 := Lib.hid (bt hB4.out hb5)
  have hq5 := Lib.hid (bt hq4.out hb5)
  clear c0 c1 k5 k6 hb5 hB4 hq4
  obtain ⟨c0, c1, _, _⟩ := dcells k7.out
  go_wp2_with fail
  refine (HRR.out _ hB5.out).mono ?_
  rintro e w6 ⟨rfl, hb6⟩
  have k9 := Lib.hid (k7.out.below hb6)
  have ka := Lib.hid (k8.out.below hb6)
  have hB6 := Lib.hid (bt hB5.out hb6)
  have hq6 := Lib.hid (bt hq5.out hb6)
  clear c0 c1 k7 k8 hb6 hB5 hq5
  go_wp2_with fail
  refine (HAL.out _).mono ?_
  rintro e w7 ⟨rfl, hb7⟩
  have kb := Lib.hid (k9.out.below hb7)
  have kc := Lib.hid (ka.out.below hb7)
  have hB7 := Lib.hid (bt hB6.out hb7)
  have hq7 := Lib.hid (bt hq6.out hb7)
  obtain ⟨c0, c1, _, _⟩ := dcells kc.out
  obtain ⟨d0, d1, _, _⟩ := dcells kb.out
  clear k9 ka hb7 hB6 hq6
  go_upto_region 13 with fail
  have hS7 := Lib.hid (hS3.out.later hq7.out)
  have hP7 := Lib.hid (hP3.out.later hq7.out)
  clear c0 c1 d0 d1 hS3 hP3 hq7 HWR HRE HWY HRR HAL HF
  refine wp_region_held_drew (S := fun W => Below w7.heap.size w7 W) (by kernel_rfl) (Below.refl _ _).drew (fun hHeld => ?_)
  refine wpAnyH_take (i := 0) (oi := ⟨some 88, _, _, _, _, _⟩) (v := .int .i64 0) rfl (by kernel_rfl) (by kernel_rfl) (by kernel_rfl) (fun _ _ _ h => h) (Or.inl ⟨by rfl, ?_⟩) (by assumption) ?_
  · (intro w9 hSw; (try dsimp only at hSw); go_simp)
  try simp only [Act.put, List.setIfInBounds_toArray, List.set_cons_zero, List.set_cons_succ]
  refine wpAnyH_take (i := 1) (oi := ⟨some 89, _, _, _, _, _⟩) (v := .bool true) rfl (by kernel_rfl) (by kernel_rfl) (by kernel_rfl) (fun _ _ _ h => h) (Or.inl ⟨by rfl, ?_⟩) (by assumption) ?_
  · (intro w9 hSw; (try dsimp only at hSw); go_simp)
  try simp only [Act.put, List.setIfInBounds_toArray, List.set_cons_zero, List.set_cons_succ]
  refine wpAnyH_take (i := 2) (oi := ⟨some 90, _, _, _, _, _⟩) (v := .bool true) rfl (by kernel_rfl) (by kernel_rfl) (by kernel_rfl) (fun _ _ _ h => h) (Or.inl ⟨by rfl, ?_⟩) (by assumption) ?_
  · (intro w9 hSw; (try dsimp only at hSw); go_simp)
  try simp only [Act.put, List.setIfInBounds_toArray, List.set_cons_zero, List.set_cons_succ]
  refine wpAnyH_take (i := 3) (oi := ⟨some 91, _, _, _, _, _⟩) (v := dv A3 n c3 B3 (m + 1) d3) rfl (by kernel_rfl) (by kernel_rfl) (by kernel_rfl) (fun _ _ _ h => h) (Or.inl ⟨by rfl, ?_⟩) (by assumption) ?_
  · (intro w9 hSw; obtain ⟨x0, x1, _, _⟩ := dcells (kc.out.below hSw); (try dsimp only at hSw); go_simp)
  try simp only [Act.put, List.setIfInBounds_toArray, List.set_cons_zero, List.set_cons_succ]
  refine wpAnyH_take (i := 4) (oi := ⟨some 92, _, _, _, _, _⟩) (v := dv A n ca B m cb) rfl (by kernel_rfl) (by kernel_rfl) (by kernel_rfl) (fun _ _ _ h => h) (Or.inl ⟨by rfl, ?_⟩) (by assumption) ?_
  · (intro w9 hSw; obtain ⟨x0, x1, _, _⟩ := dcells (kb.out.below hSw); (try dsimp only at hSw); go_simp)
  try simp only [Act.put, List.setIfInBounds_toArray, List.set_cons_zero, List.set_cons_succ]
  refine wpAnyH_take (i := 5) (oi := ⟨some 93, _, _, _, _, _⟩) (v := .int .i64 (k : Int)) rfl (by kernel_rfl) (by kernel_rfl) (by kernel_rfl) (fun _ _ _ h => h) (Or.inl ⟨by rfl, ?_⟩) (by assumption) ?_
  · (intro w9 hSw; (try dsimp only at hSw); go_simp)
  try simp only [Act.put, List.setIfInBounds_toArray, List.set_cons_zero, List.set_cons_succ]
  refine wpAnyH_take (i := 6) (oi := ⟨some 94, _, _, _, _, _⟩) (v := sv t) rfl (by kernel_rfl) (by kernel_rfl) (by kernel_rfl) (fun _ _ _ h => h) (Or.inl ⟨by rfl, ?_⟩) (by assumption) ?_
  · (intro w9 hSw; (try dsimp only at hSw); go_simp)
  try simp only [Act.put, List.setIfInBounds_toArray, List.set_cons_zero, List.set_cons_succ]
  refine wpAnyH_ready (rs := [7]) (by kernel_rfl) (by simp) ?_
  refine AllReadyH.cons (o := ⟨some 95, _, _, _, _, _⟩) rfl (fun K9 hK9 => ?_) AllReadyH.nil
  have hcur : Below w7.heap.size w7 _ := hHeld
  go_simp; go_at_call 18
  refine (HRW.out _ (bt hB7.out hcur)).mono ?_
  rintro e wa ⟨B4, d4, rfl, hp4, hba⟩
  refine hK9.out _ _ ?_ (fun hHeld => ?_)
  · first | exact bt hcur hba | exact (bt hcur hba).drew
  clear hK9 K9
  try simp only [Act.put, List.setIfInBounds_toArray, List.set_cons_zero, List.set_cons_succ]
  refine wpAnyH_ready (rs := [8]) (by kernel_rfl) (by simp) ?_
  refine AllReadyH.cons (o := ⟨some 96, _, _, _, _, _⟩) rfl (fun K9 hK9 => ?_) AllReadyH.nil
  have hcur : Below w7.heap.size w7 _ := hHeld
  go_simp; go_at_call 12
  refine (HSM.out _ _ _ _ _ _ _ (bt hB7.out hcur) (hS7.out.later hcur) (hP7.out.later hcur) hp4).mono ?_
  rintro e wb ⟨rfl, hbb⟩
  refine hK9.out _ _ ?_ (fun hHeld => ?_)
  · first | exact bt hcur hbb | exact (bt hcur hbb).drew
  clear hK9 K9
  try simp only [Act.put, List.setIfInBounds_toArray, List.set_cons_zero, List.set_cons_succ]
  refine wpAnyH_take (i := 9) (oi := ⟨some 97, _, _, _, _, _⟩) (v := .bool true) rfl (by kernel_rfl) (by kernel_rfl) (by kernel_rfl) (fun _ _ _ h => h) (Or.inl ⟨by rfl, ?_⟩) (by assumption) ?_
  · (intro w9 hSw; (try dsimp only at hSw); go_simp)
  try simp only [Act.put, List.setIfInBounds_toArray, List.set_cons_zero, List.set_cons_succ]
  refine wpAnyH_take (i := 10) (oi := ⟨some 6, _, _, _, _, _⟩) (v := .bool true) rfl (by kernel_rfl) (by kernel_rfl) (by kernel_rfl) (fun _ _ _ h => h) (Or.inl ⟨by rfl, ?_⟩) (by assumption) ?_
  · (intro w9 hSw; (try dsimp only at hSw); go_simp)
  try simp only [Act.put, List.setIfInBounds_toArray, List.set_cons_zero, List.set_cons_succ]
  refine wpAnyH_done (by kernel_rfl) ?_ _
  have hfin : Below w7.heap.size w7 _ := hHeld
  have hB9 := bt hB7.out hfin
  clear hfin hHeld
  go_wp2
  go_ret
  exact ⟨rfl, hB9⟩

theorem sec_all (A B : Option Addr) (ca cb : Nat) (S : List (List UInt8)) (C : List PutL) (k : Int) (t : List UInt8) (w : World) (hA : SR w A S) (hB : PR w B C) (hca : S.length ≤ ca) (hcb : C.length ≤ cb) (h0 : A = none → ca = 0) (h1 : B = none → cb = 0) :
    Calls Try.prog 4 #[dv A S.length ca B C.length cb, .int .i64 k, sv t] w fun e w' => e = .returned (.bool true) ∧ Below w.heap.size w w' := by
  have e1 : (S.take 70).length = min S.length 70 := by rw [List.length_take, Nat.min_comm]
  have e2 : (C.take 65).length = min C.length 65 := by rw [List.length_take, Nat.min_comm]
  cases hr : rightB (S.take 70) (C.take 65) with
  | false => exact sec_bad A B ca cb _ _ _ _ _ _ k t w (hA.take 70) (hB.take 65) e1 e2 rfl rfl hca hcb hr
  | true =>
    cases hh : hasB (min S.length 70) k with
    | false => exact sec_range A B ca cb _ _ _ _ _ _ k t w (hA.take 70) (hB.take 65) e1 e2 rfl rfl hca hcb hr hh
    | true =>
      obtain ⟨k0, k1⟩ := (hasB_iff _ _).1 hh
      obtain ⟨q, rfl⟩ : ∃ q : Nat, k = (q : Int) := ⟨k.toNat, by omega⟩
      by_cases ht : t.length ≤ 128
      · by_cases hm : min C.length 65 = 60
        · have e3 : (C.take 65).length = 60 := by omega
          rw [← hm] at e3
          exact sec_space A B ca cb _ _ _ _ _ _ q t w (hA.take 70) (hB.take 65) e1 e3 rfl rfl hca hcb hr (by omega) ht hm
        · exact sec_yes A B ca cb _ _ _ _ _ _ q t w (hA.take 70) (hB.take 65) e1 e2 rfl rfl hca hcb hr (by omega) ht hm h0 h1
      · exact sec_size A B ca cb _ _ _ _ _ _ q t w (hA.take 70) (hB.take 65) e1 e2 rfl rfl hca hcb hr (by omega) ht

set_option maxHeartbeats 1000000 in
set_option maxRecDepth 100000 in
theorem sectors_lifted (os : Os) (started : os.Started) (H : Type) (enc : TypeId × Value → H) :
    ReturnsInHanded {} Try.checked os 4 .any (Rows.deviceSectorsSpec.pre6 enc Try.prog Try.f4 Rows.deviceSectorsRow.domain false) (Rows.deviceSectorsSpec.post enc Try.prog Try.f4 false true false false) := by
  refine returnsInHanded_of_change (C := Try.checked) Try.own started (by kernel_rfl) Try.func4
    (ChangeSpec.witness6 (enc := enc) (C := Try.checked) false ⟨#[], #[.agg #[.slice none 0 0, .slice none 0 0], .int .i64 0, .string ⟨#[]⟩], []⟩ 8 (by kernel_rfl) (by kernel_rfl) (by kernel_rfl) (by kernel_rfl)) ?_
  intro W base args ds gs before hval0 hW _ _
  have hval : ∀ (j : Nat) t v, Try.f4.params[j]? = some t → args[j]? = some v → Value.okWide Try.prog W .any base t v := hval0
  have hW' := hW
  obtain ⟨p, q, hA0, hV, rfl, _, _⟩ := hW
  have hA : DataW.TrodAll enc Try.prog W 0 (fun _ => true) true Try.f4.params.toList args.toList ds p := hA0
  rw [Try.params4] at hA hval
  obtain ⟨rfl, rfl⟩ := trodVars_none hV
  have hAk := hA
  obtain ⟨v0, v1, v2, d0, d1, d2, p0, p1, p2, rfl, rfl, hp, h0, h1, h2⟩ := trodAll_three hA
  have hlt : ∀ x ∈ p, x.block < W.heap.size := fun x hx => hW'.lt x (by simpa using hx)
  obtain ⟨A0, ca0, B0, cb0, S0, C0, rfl, hca0, hcb0, hS0, hC0, hA0, hB0⟩ := open_dev (hval 0 25 v0 rfl rfl) h0
  obtain ⟨n1, rfl, rfl, _, wn1⟩ := open_int Try.underlying3 (hval 1 3 v1 rfl rfl) h1
  have hi1 := i64_bounds wn1
  obtain ⟨s2, rfl, rfl, _, ws2⟩ := ChangeMaps.open_string Try.underlying9 (hval 2 9 v2 rfl rfl) h2
  unfold maxLen at ws2
  obtain ⟨l2, rfl, hz2⟩ := str_list s2
  have hl2 : (l2.length : Int) ≤ 9223372036854775807 := by omega
  clear hA0 hval0
  refine (sec_all A0 B0 ca0 cb0 S0 C0 n1 l2 W hS0 hC0 hca0 hcb0 hA0 hB0).mono fun e W' ⟨he, hn⟩ => ?_
  subst he
  refine ⟨_, rfl, ?_⟩
  refine ⟨_, _, _, [], p, [], hW', ?_, trodAll_below_ Try.laidOut hn _ hAk (all_readable (by kernel_rfl)) hlt, rfl, hn.frame _, fun h => by cases h⟩
  exact trodAll_mk1 (shut_bool Try.underlying4 true)

/-- DeviceSectors, for every input. -/
theorem sectors_holds : Rows.DeviceSectorsSaid :=
  OpenClaim.holds_of_wide 4 Try.f4 rfl rfl rfl rfl rfl rfl rfl ⟨rfl, rfl, rfl, rfl, rfl⟩ rfl rfl rfl rfl rfl (by kernel_rfl) Try.func4 (by kernel_rfl)
    (of_decide_eq_true (by kernel_rfl)) (by unfold Func.isWrapper; rw [if_neg (of_decide_eq_false (by kernel_rfl))]; exact ⟨rfl, rfl⟩)
    (fun os started H enc _ => sectors_lifted os started H enc)
#print axioms sectors_holds
end Go.Proofs.Ytiibgbdhbamajaa
