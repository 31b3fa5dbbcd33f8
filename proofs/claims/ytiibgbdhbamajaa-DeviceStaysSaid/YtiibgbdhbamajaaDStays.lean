/- DeviceStays is true of every device and keep, and leaves them as they were. -/
import Derived.Test.YtiibgbdhbamajaaDLawA
import Derived.Test.YtiibgbdhbamajaaDRCrash
import Derived.Test.YtiibgbdhbamajaaDOpen
import Derived.Deep.DeepCutAuto
namespace Go.Proofs.Ytiibgbdhbamajaa
open Go.ChangeShapes Go.WideShapes Go.ChangeAt Go.RowKit Go.Joins Go.Deep

set_option maxRecDepth 100000 in
set_option maxHeartbeats 4000000 in
theorem stays_no (A B : Option Addr) (ca cb n0 m0 n m K : Nat) (S : List (List UInt8)) (C : List PutL) (w : World) (hA : SR w A S) (hB : PR w B C) (hn : S.length = n) (hm : C.length = m) (hn0 : min n0 70 = n) (hm0 : min m0 65 = m) (hca : n0 ≤ ca) (hcb : m0 ≤ cb) (hr : rightB S C = false) :
    Calls Try.prog 5 #[dv A n0 ca B m0 cb, .int .u64 (K : Int)] w fun e w' => e = .returned (.bool true) ∧ Below w.heap.size w w' := by
  have HF := Lib.hid (fun W => few_any A B ca cb n0 m0 W hca hcb)
  rw [hn0, hm0] at HF
  have HRR := Lib.hid (fun W (hb : Below w.heap.size w W) => rright_any A B ca cb n m S C W (hA.later hb) (hB.later hb) hn hm)
  rw [hr] at HRR
  have HAL := Lib.hid alive_any
  have HBA := Lib.hid (fun W (hb : Below w.heap.size w W) => barrier_no A B ca cb n m S C W (hA.later hb) (hB.later hb) hn hm hr)
  have HCR := Lib.hid (fun W (hb : Below w.heap.size w W) => crash_no A B ca cb n m S C K W (hA.later hb) (hB.later hb) hn hm hr)
  have HSM := Lib.hid (fun W => dsame_any none none none none 0 0 0 0 0 0 0 0 [] [] [] [] W (SR.nil _ _) (SR.nil _ _) (PR.nil _ _) (PR.nil _ _) rfl rfl rfl rfl (by omega) (by omega))
  clear hA hB hn hm hn0 hm0 hca hcb hr
  have k0 := Blk.new w 25 #[.slice A n0 ca, .slice B m0 cb]
  go_enter Try.func5, Try.ntmps5
  go_wp2_with fail
  refine (HF.out _).mono ?_
  rintro e w1 ⟨rfl, hb1⟩
  have k1 := k0.below hb1
  have hB1 := bt (ba (Below.refl w.heap.size w) (.cells #[.slice A n0 ca, .slice B m0 cb] 25)) hb1
  obtain ⟨_, _, f0, f1⟩ := dcells k1
  obtain ⟨c0, c1, _, _⟩ := dcells k1
  go_upto_region 2 with fail
  have k2 : Hid (Blk _ w.heap.size 25 #[.slice A n ca, .slice B m cb]) := Lib.hid ((k1.set_ 0 (.slice A n ca)).set_ 1 (.slice B m cb))
  have hB2 := Lib.hid (bs (bs hB1 (b := w.heap.size) (o := 0) (by omega) (.slice A n ca)) (b := w.heap.size) (o := 1) (by omega) (.slice B m cb))
  generalize (w1.setCell ⟨w.heap.size, 0, none⟩ (.slice A n ca)).setCell ⟨w.heap.size, 1, none⟩ (.slice B m cb) = w2 at k2 hB2 ⊢
  clear k0 k1 hb1 hB1 f0 f1 c0 c1
  obtain ⟨c0, c1, _, _⟩ := dcells k2.out
  go_wp2_with fail
  refine (HBA.out _ hB2.out).mono ?_
  rintro e w3 ⟨rfl, hb3⟩
  have k3 := Lib.hid (k2.out.below hb3)
  have hB3 := Lib.hid (bt hB2.out hb3)
  clear c0 c1 k2 hb3 hB2
  obtain ⟨c0, c1, _, _⟩ := dcells (k3.out.alloc (.cells #[.slice none 0 0, .slice none 0 0] 25))
  go_wp2_with fail
  refine (HCR.out _ (ba hB3.out _)).mono ?_
  rintro e w4 ⟨rfl, hb4⟩
  have k4 := Lib.hid ((k3.out.alloc (.cells #[.slice none 0 0, .slice none 0 0] 25)).below hb4)
  have k5 := Lib.hid ((Blk.new w3 25 #[.slice none 0 0, .slice none 0 0]).below hb4)
  have hB4 := Lib.hid (bt (ba hB3.out _) hb4)
  clear c0 c1 k3 hb4 hB3
  obtain ⟨c0, c1, _, _⟩ := dcells (k4.out.alloc (.cells #[.slice none 0 0, .slice none 0 0] 25))
  go_wp2_with fail
  refine (HRR.out _ (ba hB4.out _)).mono ?_
  rintro e w5 ⟨rfl, hb5⟩
  have k6 := Lib.hid ((k5.out.alloc (.cells #[.slice none 0 0, .slice none 0 0] 25)).below hb5)
  have k7 := Lib.hid ((Blk.new w4 25 #[.slice none 0 0, .slice none 0 0]).below hb5)
  have hB5 := Lib.hid (bt (ba hB4.out _) hb5)
  clear c0 c1 k4 k5 hb5 hB4
  go_wp2_with fail
  refine (HAL.out _).mono ?_
  rintro e w6 ⟨rfl, hb6⟩
  have k8 := Lib.hid (k6.out.below hb6)
  have k9 := Lib.hid (k7.out.below hb6)
  have hB6 := Lib.hid (bt hB5.out hb6)
  obtain ⟨c0, c1, _, _⟩ := dcells k8.out
  clear k6 k7 hb6 hB5
  go_wp2_with fail
  refine (HSM.out _).mono ?_
  rintro e w7 ⟨rfl, hb7⟩
  obtain ⟨d0, d1, _, _⟩ := dcells (k9.out.below hb7)
  have hB7 := Lib.hid (bt hB6.out hb7)
  go_wp2_with fail
  refine (HSM.out _).mono ?_
  rintro e w8 ⟨rfl, hb8⟩
  go_wp2_with fail
  go_ret
  exact ⟨rfl, bt hB7.out hb8⟩

set_option maxRecDepth 100000 in
set_option maxHeartbeats 4000000 in
theorem stays_yes (A B : Option Addr) (ca cb n0 m0 n m K : Nat) (S : List (List UInt8)) (C : List PutL) (w : World) (hA : SR w A S) (hB : PR w B C) (hn : S.length = n) (hm : C.length = m) (hn0 : min n0 70 = n) (hm0 : min m0 65 = m) (hca : n0 ≤ ca) (hcb : m0 ≤ cb) (hK : K < 18446744073709551616) (hr : rightB S C = true) :
    Calls Try.prog 5 #[dv A n0 ca B m0 cb, .int .u64 (K : Int)] w fun e w' => e = .returned (.bool true) ∧ Below w.heap.size w w' := by
  have HF := Lib.hid (fun W => few_any A B ca cb n0 m0 W hca hcb)
  rw [hn0, hm0] at HF
  have HRR := Lib.hid (fun W (hb : Below w.heap.size w W) => rright_any A B ca cb n m S C W (hA.later hb) (hB.later hb) hn hm)
  rw [hr] at HRR
  have HAL := Lib.hid alive_any
  have HBA := Lib.hid (fun W (hb : Below w.heap.size w W) => barrier_yes A B ca cb n m S C W (hA.later hb) (hB.later hb) hn hm hr)
  have HCR := Lib.hid (fun W (hb : Below w.heap.size w W) => crash_yes A B ca cb n m S C K W (hA.later hb) (hB.later hb) hn hm hr hK)
  obtain ⟨s1, s2, s3, _, _⟩ := rightB_yes hr
  rw [hn] at s1 s2
  rw [hm] at s3
  have hall : keptD 1152921504606846975 C = C := keptD_all 60 C (by omega)
  have HC1 : Hid (∀ W, Below w.heap.size w W → Calls Try.prog 21 #[dv A n ca B m cb, .int .u64 1152921504606846975] W fun e w' => ∃ A' c', e = .returned (dv A' n c' none 0 0) ∧ SR w' A' (storeD S C) ∧ Below W.heap.size W w') := Lib.hid (fun W hb => by
    have := rcrash_any A B ca cb n m S C 1152921504606846975 W (hA.later hb) (hB.later hb) hn hm s2 s3 (by omega)
    rw [hall] at this
    exact this)
  have HC2 := Lib.hid (fun W (hb : Below w.heap.size w W) => rcrash_any A B ca cb n m S C K W (hA.later hb) (hB.later hb) hn hm s2 s3 hK)
  have hl1 : (storeD S C).length = n := by rw [storeD_len, hn]
  have hl2 : (storeD S (keptD K C)).length = n := by rw [storeD_len, hn]
  generalize storeD S C = T1 at HBA HC1 hl1
  generalize storeD S (keptD K C) = T2 at HCR HC2 hl2
  have HSM : Hid (∀ (T : List (List UInt8)) (A1 A2 : Option Addr) (c1 c2 : Nat) (W : World), SR W A1 T → SR W A2 T → T.length = n → Calls Try.prog 12 #[dv A1 n c1 none 0 0, dv A2 n c2 none 0 0] W fun e w' => e = .returned (.bool true) ∧ Below W.heap.size W w') := Lib.hid (fun T A1 A2 c1 c2 W h1 h2 hT => by
    have := dsame_any A1 A2 none none c1 c2 0 0 n n 0 0 T T [] [] W h1 h2 (PR.nil _ _) (PR.nil _ _) hT hT rfl rfl (by omega) (by omega)
    simpa using this)
  have HL := Lib.hid (And.intro hl1 hl2)
  clear hA hB hn hm hn0 hm0 hca hcb hK hr hall s1 s2 s3 hl1 hl2
  have k0 := Blk.new w 25 #[.slice A n0 ca, .slice B m0 cb]
  go_enter Try.func5, Try.ntmps5
  go_wp2_with fail
  refine (HF.out _).mono ?_
  rintro e w1 ⟨rfl, hb1⟩
  have k1 := k0.below hb1
  have hB1 := bt (ba (Below.refl w.heap.size w) (.cells #[.slice A n0 ca, .slice B m0 cb] 25)) hb1
  obtain ⟨_, _, f0, f1⟩ := dcells k1
  obtain ⟨c0, c1, _, _⟩ := dcells k1
  go_upto_region 2 with fail
  have k2 : Hid (Blk _ w.heap.size 25 #[.slice A n ca, .slice B m cb]) := Lib.hid ((k1.set_ 0 (.slice A n ca)).set_ 1 (.slice B m cb))
  have hB2 := Lib.hid (bs (bs hB1 (b := w.heap.size) (o := 0) (by omega) (.slice A n ca)) (b := w.heap.size) (o := 1) (by omega) (.slice B m cb))
  generalize (w1.setCell ⟨w.heap.size, 0, none⟩ (.slice A n ca)).setCell ⟨w.heap.size, 1, none⟩ (.slice B m cb) = w2 at k2 hB2 ⊢
  clear k0 k1 hb1 hB1 f0 f1 c0 c1
  obtain ⟨c0, c1, _, _⟩ := dcells k2.out
  go_wp2_with fail
  refine (HBA.out _ hB2.out).mono ?_
  rintro e w3 ⟨A3, c3, rfl, ho3, hb3⟩
  have k3 := Lib.hid (k2.out.below hb3)
  have hB3 := Lib.hid (bt hB2.out hb3)
  have r3 := Lib.hid (own_SR' ho3 HL.out.1)
  clear c0 c1 k2 hb3 hB2 ho3
  obtain ⟨c0, c1, _, _⟩ := dcells (k3.out.alloc (.cells #[.slice A3 n c3, .slice none 0 0] 25))
  go_wp2_with fail
  refine (HCR.out _ (ba hB3.out _)).mono ?_
  rintro e w4 ⟨A4, c4, rfl, ho4, hb4⟩
  have k4 := Lib.hid ((k3.out.alloc (.cells #[.slice A3 n c3, .slice none 0 0] 25)).below hb4)
  have k5 := Lib.hid ((Blk.new w3 25 #[.slice A3 n c3, .slice none 0 0]).below hb4)
  have r5 : Hid (SR w4 A3 T1) := Lib.hid ((r3.out.later (ba (Below.refl _ _) (.cells #[.slice A3 n c3, .slice none 0 0] 25))).later hb4)
  have hB4 := Lib.hid (bt (ba hB3.out _) hb4)
  have r4 := Lib.hid (own_SR' ho4 HL.out.2)
  clear c0 c1 k3 hb4 hB3 ho4 r3
  obtain ⟨c0, c1, _, _⟩ := dcells (k4.out.alloc (.cells #[.slice A4 n c4, .slice none 0 0] 25))
  go_wp2_with fail
  refine (HRR.out _ (ba hB4.out _)).mono ?_
  rintro e w5 ⟨rfl, hb5⟩
  have kd := Lib.hid ((k4.out.alloc (.cells #[.slice A4 n c4, .slice none 0 0] 25)).below hb5)
  have k6 := Lib.hid ((k5.out.alloc (.cells #[.slice A4 n c4, .slice none 0 0] 25)).below hb5)
  have k7 := Lib.hid ((Blk.new w4 25 #[.slice A4 n c4, .slice none 0 0]).below hb5)
  have r6 : Hid (SR w5 A3 T1) := Lib.hid ((r5.out.later (ba (Below.refl _ _) (.cells #[.slice A4 n c4, .slice none 0 0] 25))).later hb5)
  have r7 : Hid (SR w5 A4 T2) := Lib.hid ((r4.out.later (ba (Below.refl _ _) (.cells #[.slice A4 n c4, .slice none 0 0] 25))).later hb5)
  have hB5 := Lib.hid (bt (ba hB4.out _) hb5)
  clear c0 c1 k4 k5 hb5 hB4 r4 r5
  obtain ⟨c0, c1, _, _⟩ := dcells kd.out
  go_wp2_with fail
  clear c0 c1
  refine wp_region_held_drew (S := fun W => Below w5.heap.size w5 W) (by kernel_rfl) (Below.refl _ _).drew (fun hHeld => ?_)
  refine wpAnyH_ready (rs := [0]) (by kernel_rfl) (by simp) ?_
  refine AllReadyH.cons (o := ⟨some 44, _, _, _, _, _⟩) rfl (fun K9 hK9 => ?_) AllReadyH.nil
  have hcur : Below w5.heap.size w5 _ := hHeld
  go_simp; go_at_call 13
  refine (HAL.out _).mono ?_
  rintro e w6 ⟨rfl, hb6⟩
  refine hK9.out _ _ ?_ (fun hHeld => ?_)
  · first | exact bt hcur hb6 | exact (bt hcur hb6).drew
  clear hK9 K9
  try simp only [Act.put, List.setIfInBounds_toArray, List.set_cons_zero, List.set_cons_succ]
  refine wpAnyH_take (i := 1) (oi := ⟨some 45, _, _, _, _, _⟩) (v := .bool true) rfl (by kernel_rfl) (by kernel_rfl) (by kernel_rfl) (fun _ _ _ h => h) (Or.inl ⟨by rfl, ?_⟩) (by assumption) ?_
  · (intro w9 hSw; (try dsimp only at hSw); go_simp)
  try simp only [Act.put, List.setIfInBounds_toArray, List.set_cons_zero, List.set_cons_succ]
  refine wpAnyH_take (i := 2) (oi := ⟨some 46, _, _, _, _, _⟩) (v := .int .i64 0) rfl (by kernel_rfl) (by kernel_rfl) (by kernel_rfl) (fun _ _ _ h => h) (Or.inl ⟨by rfl, ?_⟩) (by assumption) ?_
  · (intro w9 hSw; (try dsimp only at hSw); go_simp)
  try simp only [Act.put, List.setIfInBounds_toArray, List.set_cons_zero, List.set_cons_succ]
  refine wpAnyH_take (i := 3) (oi := ⟨some 47, _, _, _, _, _⟩) (v := .bool true) rfl (by kernel_rfl) (by kernel_rfl) (by kernel_rfl) (fun _ _ _ h => h) (Or.inl ⟨by rfl, ?_⟩) (by assumption) ?_
  · (intro w9 hSw; (try dsimp only at hSw); go_simp)
  try simp only [Act.put, List.setIfInBounds_toArray, List.set_cons_zero, List.set_cons_succ]
  refine wpAnyH_take (i := 4) (oi := ⟨some 48, _, _, _, _, _⟩) (v := .bool true) rfl (by kernel_rfl) (by kernel_rfl) (by kernel_rfl) (fun _ _ _ h => h) (Or.inl ⟨by rfl, ?_⟩) (by assumption) ?_
  · (intro w9 hSw; (try dsimp only at hSw); go_simp)
  try simp only [Act.put, List.setIfInBounds_toArray, List.set_cons_zero, List.set_cons_succ]
  refine wpAnyH_take (i := 5) (oi := ⟨some 49, _, _, _, _, _⟩) (v := .bool true) rfl (by kernel_rfl) (by kernel_rfl) (by kernel_rfl) (fun _ _ _ h => h) (Or.inl ⟨by rfl, ?_⟩) (by assumption) ?_
  · (intro w9 hSw; (try dsimp only at hSw); go_simp)
  try simp only [Act.put, List.setIfInBounds_toArray, List.set_cons_zero, List.set_cons_succ]
  refine wpAnyH_take (i := 6) (oi := ⟨some 50, _, _, _, _, _⟩) (v := .int .i64 0) rfl (by kernel_rfl) (by kernel_rfl) (by kernel_rfl) (fun _ _ _ h => h) (Or.inl ⟨by rfl, ?_⟩) (by assumption) ?_
  · (intro w9 hSw; (try dsimp only at hSw); go_simp)
  try simp only [Act.put, List.setIfInBounds_toArray, List.set_cons_zero, List.set_cons_succ]
  refine wpAnyH_take (i := 7) (oi := ⟨some 51, _, _, _, _, _⟩) (v := .bool true) rfl (by kernel_rfl) (by kernel_rfl) (by kernel_rfl) (fun _ _ _ h => h) (Or.inl ⟨by rfl, ?_⟩) (by assumption) ?_
  · (intro w9 hSw; (try dsimp only at hSw); go_simp)
  try simp only [Act.put, List.setIfInBounds_toArray, List.set_cons_zero, List.set_cons_succ]
  refine wpAnyH_take (i := 8) (oi := ⟨some 52, _, _, _, _, _⟩) (v := .bool true) rfl (by kernel_rfl) (by kernel_rfl) (by kernel_rfl) (fun _ _ _ h => h) (Or.inl ⟨by rfl, ?_⟩) (by assumption) ?_
  · (intro w9 hSw; (try dsimp only at hSw); go_simp)
  try simp only [Act.put, List.setIfInBounds_toArray, List.set_cons_zero, List.set_cons_succ]
  refine wpAnyH_take (i := 9) (oi := ⟨some 53, _, _, _, _, _⟩) (v := .bool true) rfl (by kernel_rfl) (by kernel_rfl) (by kernel_rfl) (fun _ _ _ h => h) (Or.inl ⟨by rfl, ?_⟩) (by assumption) ?_
  · (intro w9 hSw; (try dsimp only at hSw); go_simp)
  try simp only [Act.put, List.setIfInBounds_toArray, List.set_cons_zero, List.set_cons_succ]
  refine wpAnyH_take (i := 10) (oi := ⟨some 54, _, _, _, _, _⟩) (v := dv A3 n c3 none 0 0) rfl (by kernel_rfl) (by kernel_rfl) (by kernel_rfl) (fun _ _ _ h => h) (Or.inl ⟨by rfl, ?_⟩) (by assumption) ?_
  · (intro w9 hSw; obtain ⟨x0, x1, _, _⟩ := dcells (k6.out.below hSw); (try dsimp only at hSw); go_simp)
  try simp only [Act.put, List.setIfInBounds_toArray, List.set_cons_zero, List.set_cons_succ]
  refine wpAnyH_take (i := 11) (oi := ⟨some 55, _, _, _, _, _⟩) (v := dv A n ca B m cb) rfl (by kernel_rfl) (by kernel_rfl) (by kernel_rfl) (fun _ _ _ h => h) (Or.inl ⟨by rfl, ?_⟩) (by assumption) ?_
  · (intro w9 hSw; obtain ⟨x0, x1, _, _⟩ := dcells (kd.out.below hSw); (try dsimp only at hSw); go_simp)
  try simp only [Act.put, List.setIfInBounds_toArray, List.set_cons_zero, List.set_cons_succ]
  refine wpAnyH_ready (rs := [12]) (by kernel_rfl) (by simp) ?_
  refine AllReadyH.cons (o := ⟨some 56, _, _, _, _, _⟩) rfl (fun K9 hK9 => ?_) AllReadyH.nil
  have hcur : Below w5.heap.size w5 _ := hHeld
  go_simp; go_at_call 21
  refine (HC1.out _ (bt hB5.out hcur)).mono ?_
  rintro e w8 ⟨A8, c8, rfl, hs8, hb8⟩
  refine hK9.out _ _ ?_ (fun hHeld => ?_)
  · first | exact bt hcur hb8 | exact (bt hcur hb8).drew
  clear hK9 K9
  try simp only [Act.put, List.setIfInBounds_toArray, List.set_cons_zero, List.set_cons_succ]
  refine wpAnyH_ready (rs := [13]) (by kernel_rfl) (by simp) ?_
  refine AllReadyH.cons (o := ⟨some 57, _, _, _, _, _⟩) rfl (fun K9 hK9 => ?_) AllReadyH.nil
  have hcur : Below w5.heap.size w5 _ := hHeld
  go_simp; go_at_call 12
  refine (HSM.out T1 A3 A8 c3 c8 _ (r6.out.later hcur) hs8 HL.out.1).mono ?_
  rintro e w9 ⟨rfl, hb9⟩
  refine hK9.out _ _ ?_ (fun hHeld => ?_)
  · first | exact bt hcur hb9 | exact (bt hcur hb9).drew
  clear hK9 K9
  try simp only [Act.put, List.setIfInBounds_toArray, List.set_cons_zero, List.set_cons_succ]
  refine wpAnyH_take (i := 14) (oi := ⟨some 58, _, _, _, _, _⟩) (v := .bool true) rfl (by kernel_rfl) (by kernel_rfl) (by kernel_rfl) (fun _ _ _ h => h) (Or.inl ⟨by rfl, ?_⟩) (by assumption) ?_
  · (intro w9 hSw; (try dsimp only at hSw); go_simp)
  try simp only [Act.put, List.setIfInBounds_toArray, List.set_cons_zero, List.set_cons_succ]
  refine wpAnyH_take (i := 15) (oi := ⟨some 59, _, _, _, _, _⟩) (v := .bool true) rfl (by kernel_rfl) (by kernel_rfl) (by kernel_rfl) (fun _ _ _ h => h) (Or.inl ⟨by rfl, ?_⟩) (by assumption) ?_
  · (intro w9 hSw; (try dsimp only at hSw); go_simp)
  try simp only [Act.put, List.setIfInBounds_toArray, List.set_cons_zero, List.set_cons_succ]
  refine wpAnyH_take (i := 16) (oi := ⟨some 60, _, _, _, _, _⟩) (v := dv A4 n c4 none 0 0) rfl (by kernel_rfl) (by kernel_rfl) (by kernel_rfl) (fun _ _ _ h => h) (Or.inl ⟨by rfl, ?_⟩) (by assumption) ?_
  · (intro w9 hSw; obtain ⟨x0, x1, _, _⟩ := dcells (k7.out.below hSw); (try dsimp only at hSw); go_simp)
  try simp only [Act.put, List.setIfInBounds_toArray, List.set_cons_zero, List.set_cons_succ]
  refine wpAnyH_take (i := 17) (oi := ⟨some 61, _, _, _, _, _⟩) (v := dv A n ca B m cb) rfl (by kernel_rfl) (by kernel_rfl) (by kernel_rfl) (fun _ _ _ h => h) (Or.inl ⟨by rfl, ?_⟩) (by assumption) ?_
  · (intro w9 hSw; obtain ⟨x0, x1, _, _⟩ := dcells (kd.out.below hSw); (try dsimp only at hSw); go_simp)
  try simp only [Act.put, List.setIfInBounds_toArray, List.set_cons_zero, List.set_cons_succ]
  refine wpAnyH_take (i := 18) (oi := ⟨some 62, _, _, _, _, _⟩) (v := .int .u64 (K : Int)) rfl (by kernel_rfl) (by kernel_rfl) (by kernel_rfl) (fun _ _ _ h => h) (Or.inl ⟨by rfl, ?_⟩) (by assumption) ?_
  · (intro w9 hSw; (try dsimp only at hSw); go_simp)
  try simp only [Act.put, List.setIfInBounds_toArray, List.set_cons_zero, List.set_cons_succ]
  refine wpAnyH_ready (rs := [19]) (by kernel_rfl) (by simp) ?_
  refine AllReadyH.cons (o := ⟨some 63, _, _, _, _, _⟩) rfl (fun K9 hK9 => ?_) AllReadyH.nil
  have hcur : Below w5.heap.size w5 _ := hHeld
  go_simp; go_at_call 21
  refine (HC2.out _ (bt hB5.out hcur)).mono ?_
  rintro e wa ⟨Aa, cc, rfl, hsa, hba⟩
  refine hK9.out _ _ ?_ (fun hHeld => ?_)
  · first | exact bt hcur hba | exact (bt hcur hba).drew
  clear hK9 K9
  try simp only [Act.put, List.setIfInBounds_toArray, List.set_cons_zero, List.set_cons_succ]
  refine wpAnyH_ready (rs := [20]) (by kernel_rfl) (by simp) ?_
  refine AllReadyH.cons (o := ⟨some 64, _, _, _, _, _⟩) rfl (fun K9 hK9 => ?_) AllReadyH.nil
  have hcur : Below w5.heap.size w5 _ := hHeld
  go_simp; go_at_call 12
  refine (HSM.out T2 A4 Aa c4 cc _ (r7.out.later hcur) hsa HL.out.2).mono ?_
  rintro e wb ⟨rfl, hbb⟩
  refine hK9.out _ _ ?_ (fun hHeld => ?_)
  · first | exact bt hcur hbb | exact (bt hcur hbb).drew
  clear hK9 K9
  try simp only [Act.put, List.setIfInBounds_toArray, List.set_cons_zero, List.set_cons_succ]
  refine wpAnyH_take (i := 21) (oi := ⟨some 65, _, _, _, _, _⟩) (v := .bool true) rfl (by kernel_rfl) (by kernel_rfl) (by kernel_rfl) (fun _ _ _ h => h) (Or.inl ⟨by rfl, ?_⟩) (by assumption) ?_
  · (intro w9 hSw; (try dsimp only at hSw); go_simp)
  try simp only [Act.put, List.setIfInBounds_toArray, List.set_cons_zero, List.set_cons_succ]
  refine wpAnyH_take (i := 22) (oi := ⟨some 4, _, _, _, _, _⟩) (v := .bool true) rfl (by kernel_rfl) (by kernel_rfl) (by kernel_rfl) (fun _ _ _ h => h) (Or.inl ⟨by rfl, ?_⟩) (by assumption) ?_
  · (intro w9 hSw; (try dsimp only at hSw); go_simp)
  try simp only [Act.put, List.setIfInBounds_toArray, List.set_cons_zero, List.set_cons_succ]
  refine wpAnyH_done (by kernel_rfl) ?_ _
  have hfin : Below w5.heap.size w5 _ := hHeld
  have hB9 := bt hB5.out hfin
  clear hfin hHeld
  go_wp2
  go_ret
  exact ⟨rfl, hB9⟩

theorem stays_all (A B : Option Addr) (ca cb : Nat) (S : List (List UInt8)) (C : List PutL) (K : Nat) (w : World) (hA : SR w A S) (hB : PR w B C) (hca : S.length ≤ ca) (hcb : C.length ≤ cb) (hK : K < 18446744073709551616) :
    Calls Try.prog 5 #[dv A S.length ca B C.length cb, .int .u64 (K : Int)] w fun e w' => e = .returned (.bool true) ∧ Below w.heap.size w w' := by
  have e1 : (S.take 70).length = min S.length 70 := by rw [List.length_take, Nat.min_comm]
  have e2 : (C.take 65).length = min C.length 65 := by rw [List.length_take, Nat.min_comm]
  cases hr : rightB (S.take 70) (C.take 65) with
  | true => exact stays_yes A B ca cb _ _ _ _ K _ _ w (hA.take 70) (hB.take 65) e1 e2 rfl rfl hca hcb hK hr
  | false => exact stays_no A B ca cb _ _ _ _ K _ _ w (hA.take 70) (hB.take 65) e1 e2 rfl rfl hca hcb hr

set_option maxHeartbeats 1000000 in
set_option maxRecDepth 100000 in
theorem stays_lifted (os : Os) (started : os.Started) (H : Type) (enc : TypeId × Value → H) :
    ReturnsInHanded {} Try.checked os 5 .any (Rows.deviceStaysSpec.pre6 enc Try.prog Try.f5 Rows.deviceStaysRow.domain false) (Rows.deviceStaysSpec.post enc Try.prog Try.f5 false true false false) := by
  refine returnsInHanded_of_change (C := Try.checked) Try.own started (by kernel_rfl) Try.func5
    (ChangeSpec.witness6 (enc := enc) (C := Try.checked) false ⟨#[], #[.agg #[.slice none 0 0, .slice none 0 0], .int .u64 0], []⟩ 8 (by kernel_rfl) (by kernel_rfl) (by kernel_rfl) (by kernel_rfl)) ?_
  intro W base args ds gs before hval0 hW _ _
  have hval : ∀ (j : Nat) t v, Try.f5.params[j]? = some t → args[j]? = some v → Value.okWide Try.prog W .any base t v := hval0
  have hW' := hW
  obtain ⟨p, q, hA0, hV, rfl, _, _⟩ := hW
  have hA : DataW.TrodAll enc Try.prog W 0 (fun _ => true) true Try.f5.params.toList args.toList ds p := hA0
  rw [Try.params5] at hA hval
  obtain ⟨rfl, rfl⟩ := trodVars_none hV
  have hAk := hA
  obtain ⟨v0, v1, d0, d1, p0, p1, rfl, rfl, hp, h0, h1⟩ := trodAll_two hA
  have hlt : ∀ x ∈ p, x.block < W.heap.size := fun x hx => hW'.lt x (by simpa using hx)
  obtain ⟨A0, ca0, B0, cb0, S0, C0, rfl, hca0, hcb0, hS0, hC0, hA0, hB0⟩ := open_dev (hval 0 25 v0 rfl rfl) h0
  obtain ⟨n1, rfl, rfl, _, wn1⟩ := open_int Try.underlying41 (hval 1 41 v1 rfl rfl) h1
  obtain ⟨m1, rfl, hm1⟩ := u64_nat wn1
  clear hA0 hval0
  refine (stays_all A0 B0 ca0 cb0 S0 C0 m1 W hS0 hC0 hca0 hcb0 hm1).mono fun e W' ⟨he, hn⟩ => ?_
  subst he
  refine ⟨_, rfl, ?_⟩
  refine ⟨_, _, _, [], p, [], hW', ?_, trodAll_below_ Try.laidOut hn _ hAk (all_readable (by kernel_rfl)) hlt, rfl, hn.frame _, fun h => by cases h⟩
  exact trodAll_mk1 (shut_bool Try.underlying4 true)

/-- DeviceStays, for every input. -/
theorem stays_holds : Rows.DeviceStaysSaid :=
  OpenClaim.holds_of_wide 5 Try.f5 rfl rfl rfl rfl rfl rfl rfl ⟨rfl, rfl, rfl, rfl, rfl⟩ rfl rfl rfl rfl rfl (by kernel_rfl) Try.func5 (by kernel_rfl)
    (of_decide_eq_true (by kernel_rfl)) (by unfold Func.isWrapper; rw [if_neg (of_decide_eq_false (by kernel_rfl))]; exact ⟨rfl, rfl⟩)
    (fun os started H enc _ => stays_lifted os started H enc)
#print axioms stays_holds
end Go.Proofs.Ytiibgbdhbamajaa
