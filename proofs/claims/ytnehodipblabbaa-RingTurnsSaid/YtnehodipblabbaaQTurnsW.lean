/- The walk of RingTurns. -/
import Derived.Test.YtnehodipblabbaaQRow
import Derived.Deep.RegionHeld3
import Derived.Deep.DeepCutAuto
import Derived.Deep.CutRange
namespace Go.Proofs.Ytnehodipblabbaa
open Go.RowKit

/-- A ring's parts. -/
structure RV where
  a : Option Addr
  n : Nat
  c : Nat
  f : Int
  m : Int
/-- What the law holds from call to call: the ring's place, the two rings' places and what they are, and the texts. -/
structure QT (w W : World) (A : Option Addr) (n c : Nat) (f m : Int) (gp gd : Nat) (r r2 : RV) (PP DD : World → RV → Prop) : Prop where
  b : Below w.heap.size w W
  k : Blk W w.heap.size 24 (qcs A n c f m)
  sp : Blk W gp 24 (qcs r.a r.n r.c r.f r.m)
  sd : Blk W gd 24 (qcs r2.a r2.n r2.c r2.f r2.m)
  pp : PP W r
  dd : DD W r2
theorem QT.later {w W W' : World} {A : Option Addr} {n c : Nat} {f m : Int} {gp gd : Nat} {r r2 : RV} {PP DD : World → RV → Prop} (h : QT w W A n c f m gp gd r r2 PP DD) (hP : ∀ W W' r, PP W r → Below W.heap.size W W' → PP W' r) (hD : ∀ W W' r, DD W r → Below W.heap.size W W' → DD W' r) (hb : Below W.heap.size W W') : QT w W' A n c f m gp gd r r2 PP DD :=
  ⟨bt h.b hb, h.k.below hb, h.sp.below hb, h.sd.below hb, hP _ _ _ h.pp hb, hD _ _ _ h.dd hb⟩

set_option maxRecDepth 100000 in
set_option maxHeartbeats 16000000 in
theorem qturns_bad (A : Option Addr) (n0 n c : Nat) (f m : Int) (s : List UInt8) (k : Int) (PP DD : World → RV → Prop) (w : World)
    (HFew : Hid (∀ W, Calls Try.prog 6 #[qv A n0 c f m] W fun e w' => e = .returned (qv A n c f m) ∧ Below W.heap.size W w'))
    (HPu : Hid (∀ W, Below w.heap.size w W → Calls Try.prog 13 #[qv A n c f m, sv s] W fun e w' => (∃ r : RV, e = .returned (.tuple #[qv r.a r.n r.c r.f r.m, .int .i64 1]) ∧ PP w' r) ∧ Below W.heap.size W w'))
    (HDr : Hid (∀ W, Below w.heap.size w W → Calls Try.prog 14 #[qv A n c f m, .int .i64 k] W fun e w' => (∃ r : RV, e = .returned (.tuple #[qv r.a r.n r.c r.f r.m, .int .i64 1]) ∧ DD w' r) ∧ Below W.heap.size W w'))
    (HPk : Hid (∀ W W' r, PP W r → Below W.heap.size W W' → PP W' r))
    (HDk : Hid (∀ W W' r, DD W r → Below W.heap.size W W' → DD W' r))
    (HAL : Hid (∀ W, Calls Try.prog 12 #[] W fun e w' => e = .returned (.bool true) ∧ Below W.heap.size W w'))
    (HIt : Hid (∀ W, Below w.heap.size w W → Calls Try.prog 15 #[qv A n c f m] W fun e w' => e = .returned (.tuple #[.slice none 0 0, .int .i64 1]) ∧ Below W.heap.size W w'))
    (HRR : Hid (∀ W, Below w.heap.size w W → Calls Try.prog 9 #[qv A n c f m] W fun e w' => e = .returned (.bool false) ∧ Below W.heap.size W w'))
    (HS1 : Hid (∀ W r, PP W r → Calls Try.prog 11 #[qv r.a r.n r.c r.f r.m, qv none 0 0 0 0] W fun e w' => e = .returned (.bool true) ∧ Below W.heap.size W w'))
    (HS2 : Hid (∀ W r, DD W r → Calls Try.prog 11 #[qv r.a r.n r.c r.f r.m, qv none 0 0 0 0] W fun e w' => e = .returned (.bool true) ∧ Below W.heap.size W w'))
    :
    Calls Try.prog 4 #[qv A n0 c f m, sv s, .int .i64 k] w fun e w' => e = .returned (.bool true) ∧ Below w.heap.size w w' := by
  have HB := Lib.hid (qbox_below w A n0 c f m)
  have HK := Lib.hid (qbox_blk w A n0 c f m)
  go_enter Try.func4, Try.ntmps4
  go_wp2_with fail
  refine (HFew.out _).mono ?_
  rintro e w1 ⟨rfl, hb1⟩
  have k1 := HK.out.below hb1
  obtain ⟨⟨q0, q1, q2⟩, f0, f1, f2⟩ := qcells k1
  have B2 : Hid (Below w.heap.size w (((w1.setCell ⟨w.heap.size, 0, none⟩ (.slice A n c)).setCell ⟨w.heap.size, 1, none⟩ (.int .i64 f)).setCell ⟨w.heap.size, 2, none⟩ (.int .i64 m))) := Lib.hid (bs (bs (bs (bt HB.out hb1) (Nat.le_refl _) _) (Nat.le_refl _) _) (Nat.le_refl _) _)
  have K2 : Hid (Blk (((w1.setCell ⟨w.heap.size, 0, none⟩ (.slice A n c)).setCell ⟨w.heap.size, 1, none⟩ (.int .i64 f)).setCell ⟨w.heap.size, 2, none⟩ (.int .i64 m)) w.heap.size 24 (qcs A n c f m)) := Lib.hid (((k1.set_ 0 _).set_ 1 _).set_ 2 _)
  clear k1 hb1 HB HK HFew
  go_wp2_with fail
  generalize (((w1.setCell ⟨w.heap.size, 0, none⟩ (.slice A n c)).setCell ⟨w.heap.size, 1, none⟩ (.int .i64 f)).setCell ⟨w.heap.size, 2, none⟩ (.int .i64 m)) = w2 at B2 K2 ⊢
  clear q0 q1 q2 f0 f1 f2
  refine (HPu.out _ B2.out).mono ?_
  rintro e w3 ⟨⟨r, rfl, hP3⟩, hb3⟩
  have k3 := K2.out.below hb3
  have B4 : Hid (Below w.heap.size w (w3.alloc (.cells (qcs r.a r.n r.c r.f r.m) 24))) := Lib.hid (ba (bt B2.out hb3) _)
  have K4 : Hid (Blk (w3.alloc (.cells (qcs r.a r.n r.c r.f r.m) 24)) w.heap.size 24 (qcs A n c f m)) := Lib.hid (k3.alloc _)
  have S4 : Hid (Blk (w3.alloc (.cells (qcs r.a r.n r.c r.f r.m) 24)) w3.heap.size 24 (qcs r.a r.n r.c r.f r.m)) := Lib.hid (Blk.new _ _ _)
  have P4 : Hid (PP (w3.alloc (.cells (qcs r.a r.n r.c r.f r.m) 24)) r) := Lib.hid (HPk.out _ _ _ hP3 (ba (Below.refl _ _) _))
  obtain ⟨⟨t0, t1, t2⟩, _⟩ := qcells K4.out
  clear k3 hb3 B2 K2 hP3 HPu
  go_wp2_with fail
  generalize w3.alloc (.cells (qcs r.a r.n r.c r.f r.m) 24) = w4 at B4 K4 S4 P4 t0 t1 t2 ⊢
  clear t0 t1 t2
  generalize w3.heap.size = gp at S4 ⊢
  refine (HDr.out _ B4.out).mono ?_
  rintro e w5 ⟨⟨r2, rfl, hD5⟩, hb5⟩
  have T6 : Hid (QT w (w5.alloc (.cells (qcs r2.a r2.n r2.c r2.f r2.m) 24)) A n c f m gp w5.heap.size r r2 PP DD) := Lib.hid (by
    have hba := ba (Below.refl w5.heap.size w5) (.cells (qcs r2.a r2.n r2.c r2.f r2.m) 24)
    have hbb := bt hb5 hba
    exact ⟨bt B4.out hbb, K4.out.below hbb, S4.out.below hbb, Blk.new _ _ _, HPk.out _ _ _ P4.out hbb, HDk.out _ _ _ hD5 hba⟩)
  clear hb5 hD5 B4 K4 S4 P4 HDr
  obtain ⟨⟨t0, t1, t2⟩, _⟩ := qcells T6.out.k
  go_wp2_with fail
  generalize w5.alloc (.cells (qcs r2.a r2.n r2.c r2.f r2.m) 24) = w6 at T6 t0 t1 t2 ⊢
  clear t0 t1 t2
  generalize w5.heap.size = gd at T6 ⊢
  refine (HIt.out _ T6.out.b).mono ?_
  rintro e w7 ⟨rfl, hb7⟩
  have T7 := Lib.hid (T6.out.later HPk.out HDk.out hb7)
  clear hb7 T6 HIt
  obtain ⟨⟨t0, t1, t2⟩, _⟩ := qcells T7.out.k
  go_wp2_with fail
  refine (HRR.out _ T7.out.b).mono ?_
  rintro e w8 ⟨rfl, hb8⟩
  have T8 := Lib.hid (T7.out.later HPk.out HDk.out hb8)
  clear hb8 T7 t0 t1 t2 HRR
  go_wp2_with fail
  refine (HAL.out _).mono ?_
  rintro e w9 ⟨rfl, hb9⟩
  have T9 := Lib.hid (T8.out.later HPk.out HDk.out hb9)
  clear hb9 T8 HAL
  obtain ⟨⟨t0, t1, t2⟩, _⟩ := qcells T9.out.sp
  go_wp2_with fail
  refine (HS1.out _ _ T9.out.pp).mono ?_
  rintro e w10 ⟨rfl, hb10⟩
  have T10 := Lib.hid (T9.out.later HPk.out HDk.out hb10)
  clear hb10 T9 HS1 t0 t1 t2
  obtain ⟨⟨t0, t1, t2⟩, _⟩ := qcells T10.out.sd
  go_wp2_with fail
  refine (HS2.out _ _ T10.out.dd).mono ?_
  rintro e w11 ⟨rfl, hb11⟩
  go_wp2
  go_ret
  exact ⟨rfl, bt T10.out.b hb11⟩

set_option maxRecDepth 100000 in
set_option maxHeartbeats 16000000 in
theorem qturns_good (A : Option Addr) (n0 n c mm : Nat) (f m : Int) (s : List UInt8) (k : Int) (ee ff : Int) (I : List (List UInt8)) (PP DD RP RD : World → RV → Prop) (w : World)
    (HFew : Hid (∀ W, Calls Try.prog 6 #[qv A n0 c f m] W fun e w' => e = .returned (qv A n c f m) ∧ Below W.heap.size W w'))
    (HPu : Hid (∀ W, Below w.heap.size w W → Calls Try.prog 13 #[qv A n c f m, sv s] W fun e w' => (∃ r : RV, e = .returned (.tuple #[qv r.a r.n r.c r.f r.m, .int .i64 ee]) ∧ PP w' r) ∧ Below W.heap.size W w'))
    (HDr : Hid (∀ W, Below w.heap.size w W → Calls Try.prog 14 #[qv A n c f m, .int .i64 k] W fun e w' => (∃ r : RV, e = .returned (.tuple #[qv r.a r.n r.c r.f r.m, .int .i64 ff]) ∧ DD w' r) ∧ Below W.heap.size W w'))
    (HPk : Hid (∀ W W' r, PP W r → Below W.heap.size W W' → PP W' r))
    (HDk : Hid (∀ W W' r, DD W r → Below W.heap.size W W' → DD W' r))
    (HAL : Hid (∀ W, Calls Try.prog 12 #[] W fun e w' => e = .returned (.bool true) ∧ Below W.heap.size W w'))
    (HIt : Hid (∀ W, Below w.heap.size w W → Calls Try.prog 15 #[qv A n c f m] W fun e w' => (∃ A' c', e = .returned (.tuple #[.slice A' mm c', .int .i64 0]) ∧ SR w' A' I) ∧ Below W.heap.size W w'))
    (HRR : Hid (∀ W, Below w.heap.size w W → Calls Try.prog 9 #[qv A n c f m] W fun e w' => e = .returned (.bool true) ∧ Below W.heap.size W w'))
    (HRI : Hid (∀ W, Below w.heap.size w W → Calls Try.prog 17 #[qv A n c f m] W fun e w' => (∃ A' c', e = .returned (.slice A' mm c') ∧ SR w' A' I) ∧ Below W.heap.size W w'))
    (HSI : Hid (∀ W A' c' A'' c'', SR W A' I → SR W A'' I → Calls Try.prog 16 #[.slice A' mm c', .slice A'' mm c''] W fun e w' => e = .returned (.bool true) ∧ Below W.heap.size W w'))
    (P1 : Hid (((m == (n : Int)) = true ∧ ee = 6 ∧ (∀ W r, PP W r → Calls Try.prog 11 #[qv r.a r.n r.c r.f r.m, qv none 0 0 0 0] W fun e w' => e = .returned (.bool true) ∧ Below W.heap.size W w')) ∨ ((m == (n : Int)) = false ∧ ee = 0 ∧ (∀ W, Below w.heap.size w W → Calls Try.prog 18 #[qv A n c f m, sv s] W fun e w' => ∃ r : RV, e = .returned (qv r.a r.n r.c r.f r.m) ∧ RP w' r ∧ Below W.heap.size W w') ∧ (∀ W r r', PP W r → RP W r' → Calls Try.prog 11 #[qv r.a r.n r.c r.f r.m, qv r'.a r'.n r'.c r'.f r'.m] W fun e w' => e = .returned (.bool true) ∧ Below W.heap.size W w'))))
    (P2 : Hid ((k < 0 ∧ ff = 2 ∧ (∀ W r, DD W r → Calls Try.prog 11 #[qv r.a r.n r.c r.f r.m, qv none 0 0 0 0] W fun e w' => e = .returned (.bool true) ∧ Below W.heap.size W w')) ∨ (0 ≤ k ∧ m < k ∧ ff = 2 ∧ (∀ W r, DD W r → Calls Try.prog 11 #[qv r.a r.n r.c r.f r.m, qv none 0 0 0 0] W fun e w' => e = .returned (.bool true) ∧ Below W.heap.size W w')) ∨ (0 ≤ k ∧ k ≤ m ∧ ff = 0 ∧ (∀ W, Below w.heap.size w W → Calls Try.prog 19 #[qv A n c f m, .int .i64 k] W fun e w' => ∃ r : RV, e = .returned (qv r.a r.n r.c r.f r.m) ∧ RD w' r ∧ Below W.heap.size W w') ∧ (∀ W r r', DD W r → RD W r' → Calls Try.prog 11 #[qv r.a r.n r.c r.f r.m, qv r'.a r'.n r'.c r'.f r'.m] W fun e w' => e = .returned (.bool true) ∧ Below W.heap.size W w'))))
    :
    Calls Try.prog 4 #[qv A n0 c f m, sv s, .int .i64 k] w fun e w' => e = .returned (.bool true) ∧ Below w.heap.size w w' := by
  have HB := Lib.hid (qbox_below w A n0 c f m)
  have HK := Lib.hid (qbox_blk w A n0 c f m)
  go_enter Try.func4, Try.ntmps4
  go_wp2_with fail
  refine (HFew.out _).mono ?_
  rintro e w1 ⟨rfl, hb1⟩
  have k1 := HK.out.below hb1
  obtain ⟨⟨q0, q1, q2⟩, f0, f1, f2⟩ := qcells k1
  have B2 : Hid (Below w.heap.size w (((w1.setCell ⟨w.heap.size, 0, none⟩ (.slice A n c)).setCell ⟨w.heap.size, 1, none⟩ (.int .i64 f)).setCell ⟨w.heap.size, 2, none⟩ (.int .i64 m))) := Lib.hid (bs (bs (bs (bt HB.out hb1) (Nat.le_refl _) _) (Nat.le_refl _) _) (Nat.le_refl _) _)
  have K2 : Hid (Blk (((w1.setCell ⟨w.heap.size, 0, none⟩ (.slice A n c)).setCell ⟨w.heap.size, 1, none⟩ (.int .i64 f)).setCell ⟨w.heap.size, 2, none⟩ (.int .i64 m)) w.heap.size 24 (qcs A n c f m)) := Lib.hid (((k1.set_ 0 _).set_ 1 _).set_ 2 _)
  clear k1 hb1 HB HK HFew
  go_wp2_with fail
  generalize (((w1.setCell ⟨w.heap.size, 0, none⟩ (.slice A n c)).setCell ⟨w.heap.size, 1, none⟩ (.int .i64 f)).setCell ⟨w.heap.size, 2, none⟩ (.int .i64 m)) = w2 at B2 K2 ⊢
  clear q0 q1 q2 f0 f1 f2
  refine (HPu.out _ B2.out).mono ?_
  rintro e w3 ⟨⟨r, rfl, hP3⟩, hb3⟩
  have k3 := K2.out.below hb3
  have B4 : Hid (Below w.heap.size w (w3.alloc (.cells (qcs r.a r.n r.c r.f r.m) 24))) := Lib.hid (ba (bt B2.out hb3) _)
  have K4 : Hid (Blk (w3.alloc (.cells (qcs r.a r.n r.c r.f r.m) 24)) w.heap.size 24 (qcs A n c f m)) := Lib.hid (k3.alloc _)
  have S4 : Hid (Blk (w3.alloc (.cells (qcs r.a r.n r.c r.f r.m) 24)) w3.heap.size 24 (qcs r.a r.n r.c r.f r.m)) := Lib.hid (Blk.new _ _ _)
  have P4 : Hid (PP (w3.alloc (.cells (qcs r.a r.n r.c r.f r.m) 24)) r) := Lib.hid (HPk.out _ _ _ hP3 (ba (Below.refl _ _) _))
  obtain ⟨⟨t0, t1, t2⟩, _⟩ := qcells K4.out
  clear k3 hb3 B2 K2 hP3 HPu
  go_wp2_with fail
  generalize w3.alloc (.cells (qcs r.a r.n r.c r.f r.m) 24) = w4 at B4 K4 S4 P4 t0 t1 t2 ⊢
  clear t0 t1 t2
  generalize w3.heap.size = gp at S4 ⊢
  refine (HDr.out _ B4.out).mono ?_
  rintro e w5 ⟨⟨r2, rfl, hD5⟩, hb5⟩
  have T6 : Hid (QT w (w5.alloc (.cells (qcs r2.a r2.n r2.c r2.f r2.m) 24)) A n c f m gp w5.heap.size r r2 PP DD) := Lib.hid (by
    have hba := ba (Below.refl w5.heap.size w5) (.cells (qcs r2.a r2.n r2.c r2.f r2.m) 24)
    have hbb := bt hb5 hba
    exact ⟨bt B4.out hbb, K4.out.below hbb, S4.out.below hbb, Blk.new _ _ _, HPk.out _ _ _ P4.out hbb, HDk.out _ _ _ hD5 hba⟩)
  clear hb5 hD5 B4 K4 S4 P4 HDr
  obtain ⟨⟨t0, t1, t2⟩, _⟩ := qcells T6.out.k
  go_wp2_with fail
  generalize w5.alloc (.cells (qcs r2.a r2.n r2.c r2.f r2.m) 24) = w6 at T6 t0 t1 t2 ⊢
  clear t0 t1 t2
  generalize w5.heap.size = gd at T6 ⊢
  refine (HIt.out _ T6.out.b).mono ?_
  rintro e w7 ⟨⟨A7, c7, rfl, hI7⟩, hb7⟩
  have T7 := Lib.hid (T6.out.later HPk.out HDk.out hb7)
  have I7 := Lib.hid hI7
  clear hI7
  clear hb7 T6 HIt
  obtain ⟨⟨t0, t1, t2⟩, _⟩ := qcells T7.out.k
  go_wp2_with fail
  refine (HRR.out _ T7.out.b).mono ?_
  rintro e w8 ⟨rfl, hb8⟩
  have T8 := Lib.hid (T7.out.later HPk.out HDk.out hb8)
  have I8 := Lib.hid (I7.out.later hb8)
  clear hb8 T7 I7 t0 t1 t2 HRR
  obtain ⟨⟨t0, t1, t2⟩, _⟩ := qcells T8.out.k
  go_wp2_with fail
  refine (HRI.out _ T8.out.b).mono ?_
  rintro e w9 ⟨⟨A9, c9, rfl, hI9⟩, hb9⟩
  have T9 := Lib.hid (T8.out.later HPk.out HDk.out hb9)
  have I9 := Lib.hid (And.intro (I8.out.later hb9) hI9)
  clear hb9 hI9 T8 I8 HRI t0 t1 t2
  go_wp2_with fail
  refine (HSI.out _ _ _ _ _ I9.out.1 I9.out.2).mono ?_
  rintro e w10 ⟨rfl, hb10⟩
  have T10 := Lib.hid (T9.out.later HPk.out HDk.out hb10)
  clear hb10 T9 I9 HSI
  go_wp2_with fail
  refine (HAL.out _).mono ?_
  rintro e w11 ⟨rfl, hb11⟩
  have T11 := Lib.hid (T10.out.later HPk.out HDk.out hb11)
  clear hb11 T10 HAL
  obtain ⟨⟨t0, t1, t2⟩, _⟩ := qcells T11.out.k
  rcases P1.out with ⟨hmn, rfl, HS1⟩ | ⟨hmn, rfl, HRP, HS1⟩
  · have HS2 := Lib.hid HS1
    clear HS1
    go_upto_region 10 with fail
    clear t0 t1 t2
    refine wp_region_held_drew (S := fun W => Below w11.heap.size w11 W) (by kernel_rfl) (Below.refl _ _).drew (fun hHeld => ?_)
    refine wpAnyH_take (i := 0) (oi := ⟨some 83, _, _, _, _, _⟩) (v := .bool true) rfl (by kernel_rfl) (by kernel_rfl) (by kernel_rfl) (fun _ _ _ h => h) (Or.inl ⟨by rfl, ?_⟩) (by assumption) ?_
    · (intro w9 hSw; (try dsimp only at hSw); go_simp)
    try simp only [Act.put, List.setIfInBounds_toArray, List.set_cons_zero, List.set_cons_succ]
    refine wpAnyH_take (i := 1) (oi := ⟨some 84, _, _, _, _, _⟩) (v := .bool true) rfl (by kernel_rfl) (by kernel_rfl) (by kernel_rfl) (fun _ _ _ h => h) (Or.inl ⟨by rfl, ?_⟩) (by assumption) ?_
    · (intro w9 hSw; (try dsimp only at hSw); go_simp)
    try simp only [Act.put, List.setIfInBounds_toArray, List.set_cons_zero, List.set_cons_succ]
    refine wpAnyH_take (i := 2) (oi := ⟨some 85, _, _, _, _, _⟩) (v := .int .i64 6) rfl (by kernel_rfl) (by kernel_rfl) (by kernel_rfl) (fun _ _ _ h => h) (Or.inl ⟨by rfl, ?_⟩) (by assumption) ?_
    · (intro w9 hSw; (try dsimp only at hSw); go_simp)
    try simp only [Act.put, List.setIfInBounds_toArray, List.set_cons_zero, List.set_cons_succ]
    refine wpAnyH_take (i := 3) (oi := ⟨some 86, _, _, _, _, _⟩) (v := .bool false) rfl (by kernel_rfl) (by kernel_rfl) (by kernel_rfl) (fun _ _ _ h => h) (Or.inl ⟨by rfl, ?_⟩) (by assumption) ?_
    · (intro w9 hSw; (try dsimp only at hSw); go_simp)
    try simp only [Act.put, List.setIfInBounds_toArray, List.set_cons_zero, List.set_cons_succ]
    refine wpAnyH_take (i := 4) (oi := ⟨some 87, _, _, _, _, _⟩) (v := .bool false) rfl (by kernel_rfl) (by kernel_rfl) (by kernel_rfl) (fun _ _ _ h => h) (Or.inl ⟨by rfl, ?_⟩) (by assumption) ?_
    · (intro w9 hSw; (try dsimp only at hSw); go_simp)
    try simp only [Act.put, List.setIfInBounds_toArray, List.set_cons_zero, List.set_cons_succ]
    refine wpAnyH_take (i := 5) (oi := ⟨some 88, _, _, _, _, _⟩) (v := qv r.a r.n r.c r.f r.m) rfl (by kernel_rfl) (by kernel_rfl) (by kernel_rfl) (fun _ _ _ h => h) (Or.inl ⟨by rfl, ?_⟩) (by assumption) ?_
    · (intro w9 hSw; obtain ⟨⟨u0, u1, u2⟩, _⟩ := qcells (T11.out.sp.below hSw); (try dsimp only at hSw); go_simp)
    try simp only [Act.put, List.setIfInBounds_toArray, List.set_cons_zero, List.set_cons_succ]
    refine wpAnyH_take (i := 6) (oi := ⟨some 89, _, _, _, _, _⟩) (v := qv none 0 0 0 0) rfl (by kernel_rfl) (by kernel_rfl) (by kernel_rfl) (fun _ _ _ h => h) (Or.inl ⟨by rfl, ?_⟩) (by assumption) ?_
    · (intro w9 hSw; (try dsimp only at hSw); go_simp)
    try simp only [Act.put, List.setIfInBounds_toArray, List.set_cons_zero, List.set_cons_succ]
    refine wpAnyH_ready (rs := [7]) (by kernel_rfl) (by simp) ?_
    refine AllReadyH.cons (o := ⟨some 90, _, _, _, _, _⟩) rfl (fun K9 hK9 => ?_) AllReadyH.nil
    have hcur : Below w11.heap.size w11 _ := hHeld
    go_simp; go_at_call 11
    refine (HS2.out _ _ (HPk.out _ _ _ T11.out.pp hcur)).mono ?_
    rintro e w12 ⟨rfl, hb12⟩
    refine hK9.out _ _ ?_ (fun hHeld => ?_)
    · exact bt hcur hb12
    clear hK9 K9
    try simp only [Act.put, List.setIfInBounds_toArray, List.set_cons_zero, List.set_cons_succ]
    refine wpAnyH_take (i := 8) (oi := ⟨some 91, _, _, _, _, _⟩) (v := .bool false) rfl (by kernel_rfl) (by kernel_rfl) (by kernel_rfl) (fun _ _ _ h => h) (Or.inl ⟨by rfl, ?_⟩) (by assumption) ?_
    · (intro w9 hSw; (try dsimp only at hSw); go_simp)
    try simp only [Act.put, List.setIfInBounds_toArray, List.set_cons_zero, List.set_cons_succ]
    refine wpAnyH_take (i := 9) (oi := ⟨some 92, _, _, _, _, _⟩) (v := .bool false) rfl (by kernel_rfl) (by kernel_rfl) (by kernel_rfl) (fun _ _ _ h => h) (Or.inl ⟨by rfl, ?_⟩) (by assumption) ?_
    · (intro w9 hSw; (try dsimp only at hSw); go_simp)
    try simp only [Act.put, List.setIfInBounds_toArray, List.set_cons_zero, List.set_cons_succ]
    refine wpAnyH_take (i := 10) (oi := ⟨some 93, _, _, _, _, _⟩) (v := .bool false) rfl (by kernel_rfl) (by kernel_rfl) (by kernel_rfl) (fun _ _ _ h => h) (Or.inl ⟨by rfl, ?_⟩) (by assumption) ?_
    · (intro w9 hSw; (try dsimp only at hSw); go_simp)
    try simp only [Act.put, List.setIfInBounds_toArray, List.set_cons_zero, List.set_cons_succ]
    refine wpAnyH_take (i := 11) (oi := ⟨some 94, _, _, _, _, _⟩) (v := .bool false) rfl (by kernel_rfl) (by kernel_rfl) (by kernel_rfl) (fun _ _ _ h => h) (Or.inl ⟨by rfl, ?_⟩) (by assumption) ?_
    · (intro w9 hSw; (try dsimp only at hSw); go_simp)
    try simp only [Act.put, List.setIfInBounds_toArray, List.set_cons_zero, List.set_cons_succ]
    refine wpAnyH_take (i := 12) (oi := ⟨some 95, _, _, _, _, _⟩) (v := .bool true) rfl (by kernel_rfl) (by kernel_rfl) (by kernel_rfl) (fun _ _ _ h => h) (Or.inl ⟨by rfl, ?_⟩) (by assumption) ?_
    · (intro w9 hSw; (try dsimp only at hSw); go_simp)
    try simp only [Act.put, List.setIfInBounds_toArray, List.set_cons_zero, List.set_cons_succ]
    refine wpAnyH_take (i := 13) (oi := ⟨some 96, _, _, _, _, _⟩) (v := .bool false) rfl (by kernel_rfl) (by kernel_rfl) (by kernel_rfl) (fun _ _ _ h => h) (Or.inl ⟨by rfl, ?_⟩) (by assumption) ?_
    · (intro w9 hSw; (try dsimp only at hSw); go_simp)
    try simp only [Act.put, List.setIfInBounds_toArray, List.set_cons_zero, List.set_cons_succ]
    refine wpAnyH_take (i := 14) (oi := ⟨some 97, _, _, _, _, _⟩) (v := .bool false) rfl (by kernel_rfl) (by kernel_rfl) (by kernel_rfl) (fun _ _ _ h => h) (Or.inl ⟨by rfl, ?_⟩) (by assumption) ?_
    · (intro w9 hSw; (try dsimp only at hSw); go_simp)
    try simp only [Act.put, List.setIfInBounds_toArray, List.set_cons_zero, List.set_cons_succ]
    refine wpAnyH_take (i := 15) (oi := ⟨some 98, _, _, _, _, _⟩) (v := undef) rfl (by kernel_rfl) (by kernel_rfl) (by kernel_rfl) (fun _ _ _ h => h) (Or.inr ⟨by rfl, rfl⟩) (by assumption) ?_
    try simp only [Act.put, List.setIfInBounds_toArray, List.set_cons_zero, List.set_cons_succ]
    refine wpAnyH_take (i := 16) (oi := ⟨some 99, _, _, _, _, _⟩) (v := undef) rfl (by kernel_rfl) (by kernel_rfl) (by kernel_rfl) (fun _ _ _ h => h) (Or.inr ⟨by rfl, rfl⟩) (by assumption) ?_
    try simp only [Act.put, List.setIfInBounds_toArray, List.set_cons_zero, List.set_cons_succ]
    refine wpAnyH_take (i := 17) (oi := ⟨some 100, _, _, _, _, _⟩) (v := undef) rfl (by kernel_rfl) (by kernel_rfl) (by kernel_rfl) (fun _ _ _ h => h) (Or.inr ⟨by rfl, rfl⟩) (by assumption) ?_
    try simp only [Act.put, List.setIfInBounds_toArray, List.set_cons_zero, List.set_cons_succ]
    refine wpAnyH_take (i := 18) (oi := ⟨some 101, _, _, _, _, _⟩) (v := undef) rfl (by kernel_rfl) (by kernel_rfl) (by kernel_rfl) (fun _ _ _ h => h) (Or.inr ⟨by rfl, rfl⟩) (by assumption) ?_
    try simp only [Act.put, List.setIfInBounds_toArray, List.set_cons_zero, List.set_cons_succ]
    refine wpAnyH_take (i := 19) (oi := ⟨some 102, _, _, _, _, _⟩) (v := undef) rfl (by kernel_rfl) (by kernel_rfl) (by kernel_rfl) (fun _ _ _ h => h) (Or.inr ⟨by rfl, rfl⟩) (by assumption) ?_
    try simp only [Act.put, List.setIfInBounds_toArray, List.set_cons_zero, List.set_cons_succ]
    refine wpAnyH_take (i := 20) (oi := ⟨some 103, _, _, _, _, _⟩) (v := undef) rfl (by kernel_rfl) (by kernel_rfl) (by kernel_rfl) (fun _ _ _ h => h) (Or.inr ⟨by rfl, rfl⟩) (by assumption) ?_
    try simp only [Act.put, List.setIfInBounds_toArray, List.set_cons_zero, List.set_cons_succ]
    refine wpAnyH_take (i := 21) (oi := ⟨some 104, _, _, _, _, _⟩) (v := undef) rfl (by kernel_rfl) (by kernel_rfl) (by kernel_rfl) (fun _ _ _ h => h) (Or.inr ⟨by rfl, rfl⟩) (by assumption) ?_
    try simp only [Act.put, List.setIfInBounds_toArray, List.set_cons_zero, List.set_cons_succ]
    refine wpAnyH_take (i := 22) (oi := ⟨some 105, _, _, _, _, _⟩) (v := undef) rfl (by kernel_rfl) (by kernel_rfl) (by kernel_rfl) (fun _ _ _ h => h) (Or.inr ⟨by rfl, rfl⟩) (by assumption) ?_
    try simp only [Act.put, List.setIfInBounds_toArray, List.set_cons_zero, List.set_cons_succ]
    refine wpAnyH_take (i := 23) (oi := ⟨some 106, _, _, _, _, _⟩) (v := undef) rfl (by kernel_rfl) (by kernel_rfl) (by kernel_rfl) (fun _ _ _ h => h) (Or.inr ⟨by rfl, rfl⟩) (by assumption) ?_
    try simp only [Act.put, List.setIfInBounds_toArray, List.set_cons_zero, List.set_cons_succ]
    refine wpAnyH_take (i := 24) (oi := ⟨some 107, _, _, _, _, _⟩) (v := undef) rfl (by kernel_rfl) (by kernel_rfl) (by kernel_rfl) (fun _ _ _ h => h) (Or.inr ⟨by rfl, rfl⟩) (by assumption) ?_
    try simp only [Act.put, List.setIfInBounds_toArray, List.set_cons_zero, List.set_cons_succ]
    refine wpAnyH_take (i := 25) (oi := ⟨some 108, _, _, _, _, _⟩) (v := .bool false) rfl (by kernel_rfl) (by kernel_rfl) (by kernel_rfl) (fun _ _ _ h => h) (Or.inl ⟨by rfl, ?_⟩) (by assumption) ?_
    · (intro w9 hSw; (try dsimp only at hSw); go_simp)
    try simp only [Act.put, List.setIfInBounds_toArray, List.set_cons_zero, List.set_cons_succ]
    refine wpAnyH_take (i := 26) (oi := ⟨some 109, _, _, _, _, _⟩) (v := .bool false) rfl (by kernel_rfl) (by kernel_rfl) (by kernel_rfl) (fun _ _ _ h => h) (Or.inl ⟨by rfl, ?_⟩) (by assumption) ?_
    · (intro w9 hSw; (try dsimp only at hSw); go_simp)
    try simp only [Act.put, List.setIfInBounds_toArray, List.set_cons_zero, List.set_cons_succ]
    refine wpAnyH_done (by kernel_rfl) ?_ _
    have hfin : Below w11.heap.size w11 _ := hHeld
    have T12 := Lib.hid (T11.out.later HPk.out HDk.out hfin)
    clear hfin hHeld T11 P1
    obtain ⟨⟨t0, t1, t2⟩, _⟩ := qcells T12.out.k
    obtain ⟨⟨t3, t4, t5⟩, _⟩ := qcells T12.out.sd
    rcases P2.out with ⟨p1, rfl, HS3⟩ | ⟨p1, p2, rfl, HS3⟩ | ⟨p1, p2, rfl, HRD, HS3⟩
    · have HS4 := Lib.hid HS3
      clear HS3 P2
      go_wp2_with fail
      refine (HS4.out _ _ T12.out.dd).mono ?_
      rintro e w13 ⟨rfl, hb13⟩
      go_wp2
      go_ret
      exact ⟨rfl, bt T12.out.b hb13⟩
    · have HS4 := Lib.hid HS3
      clear HS3 P2
      go_wp2_with fail
      refine (HS4.out _ _ T12.out.dd).mono ?_
      rintro e w13 ⟨rfl, hb13⟩
      go_wp2
      go_ret
      exact ⟨rfl, bt T12.out.b hb13⟩
    · have HRD2 := Lib.hid HRD
      have HS4 := Lib.hid HS3
      have hkm := p2
      clear HRD HS3 t0 t1 t2 t3 t4 t5 p2 P2
      have t2 := (qcells T12.out.k).1.2.2
      go_upto_region 14 with fail
      clear t2
      refine wp_region_held_drew (S := fun W => Below w12.heap.size w12 W) (by kernel_rfl) (Below.refl _ _).drew (fun hHeld => ?_)
      refine wpAnyH_take (i := 0) (oi := ⟨some 125, _, _, _, _, _⟩) (v := .int .i64 0) rfl (by kernel_rfl) (by kernel_rfl) (by kernel_rfl) (fun _ _ _ h => h) (Or.inl ⟨by rfl, ?_⟩) (by assumption) ?_
      · (intro w9 hSw; (try dsimp only at hSw); go_simp)
      try simp only [Act.put, List.setIfInBounds_toArray, List.set_cons_zero, List.set_cons_succ]
      refine wpAnyH_take (i := 1) (oi := ⟨some 126, _, _, _, _, _⟩) (v := .bool true) rfl (by kernel_rfl) (by kernel_rfl) (by kernel_rfl) (fun _ _ _ h => h) (Or.inl ⟨by rfl, ?_⟩) (by assumption) ?_
      · (intro w9 hSw; (try dsimp only at hSw); go_simp)
      try simp only [Act.put, List.setIfInBounds_toArray, List.set_cons_zero, List.set_cons_succ]
      refine wpAnyH_take (i := 2) (oi := ⟨some 127, _, _, _, _, _⟩) (v := .bool true) rfl (by kernel_rfl) (by kernel_rfl) (by kernel_rfl) (fun _ _ _ h => h) (Or.inl ⟨by rfl, ?_⟩) (by assumption) ?_
      · (intro w9 hSw; (try dsimp only at hSw); go_simp)
      try simp only [Act.put, List.setIfInBounds_toArray, List.set_cons_zero, List.set_cons_succ]
      refine wpAnyH_take (i := 3) (oi := ⟨some 128, _, _, _, _, _⟩) (v := qv r2.a r2.n r2.c r2.f r2.m) rfl (by kernel_rfl) (by kernel_rfl) (by kernel_rfl) (fun _ _ _ h => h) (Or.inl ⟨by rfl, ?_⟩) (by assumption) ?_
      · (intro w9 hSw; obtain ⟨⟨u0, u1, u2⟩, _⟩ := qcells (T12.out.sd.below hSw); (try dsimp only at hSw); go_simp)
      try simp only [Act.put, List.setIfInBounds_toArray, List.set_cons_zero, List.set_cons_succ]
      refine wpAnyH_take (i := 4) (oi := ⟨some 129, _, _, _, _, _⟩) (v := qv A n c f m) rfl (by kernel_rfl) (by kernel_rfl) (by kernel_rfl) (fun _ _ _ h => h) (Or.inl ⟨by rfl, ?_⟩) (by assumption) ?_
      · (intro w9 hSw; obtain ⟨⟨u0, u1, u2⟩, _⟩ := qcells (T12.out.k.below hSw); (try dsimp only at hSw); go_simp)
      try simp only [Act.put, List.setIfInBounds_toArray, List.set_cons_zero, List.set_cons_succ]
      refine wpAnyH_take (i := 5) (oi := ⟨some 130, _, _, _, _, _⟩) (v := .int .i64 k) rfl (by kernel_rfl) (by kernel_rfl) (by kernel_rfl) (fun _ _ _ h => h) (Or.inl ⟨by rfl, ?_⟩) (by assumption) ?_
      · (intro w9 hSw; (try dsimp only at hSw); go_simp)
      try simp only [Act.put, List.setIfInBounds_toArray, List.set_cons_zero, List.set_cons_succ]
      refine wpAnyH_ready (rs := [6]) (by kernel_rfl) (by simp) ?_
      refine AllReadyH.cons (o := ⟨some 131, _, _, _, _, _⟩) rfl (fun K9 hK9 => ?_) AllReadyH.nil
      have hcur : Below w12.heap.size w12 _ := hHeld
      go_simp; go_at_call 19
      refine (HRD2.out _ (bt T12.out.b hcur)).mono ?_
      rintro e w13 ⟨r3, rfl, hR3, hb13⟩
      have T13 := Lib.hid (And.intro (T12.out.later HPk.out HDk.out (bt hcur hb13)) hR3)
      clear hR3
      refine hK9.out _ _ ?_ (fun hHeld => ?_)
      · exact bt hcur hb13
      clear hK9 K9
      try simp only [Act.put, List.setIfInBounds_toArray, List.set_cons_zero, List.set_cons_succ]
      refine wpAnyH_ready (rs := [7]) (by kernel_rfl) (by simp) ?_
      refine AllReadyH.cons (o := ⟨some 132, _, _, _, _, _⟩) rfl (fun K9 hK9 => ?_) AllReadyH.nil
      have hcu2 : Below w12.heap.size w12 _ := hHeld
      go_simp; go_at_call 11
      refine (HS4.out _ _ _ T13.out.1.dd T13.out.2).mono ?_
      rintro e w14 ⟨rfl, hb14⟩
      refine hK9.out _ _ ?_ (fun hHeld => ?_)
      · exact bt hcu2 hb14
      clear hK9 K9
      try simp only [Act.put, List.setIfInBounds_toArray, List.set_cons_zero, List.set_cons_succ]
      refine wpAnyH_take (i := 8) (oi := ⟨some 133, _, _, _, _, _⟩) (v := .bool true) rfl (by kernel_rfl) (by kernel_rfl) (by kernel_rfl) (fun _ _ _ h => h) (Or.inl ⟨by rfl, ?_⟩) (by assumption) ?_
      · (intro w9 hSw; (try dsimp only at hSw); go_simp)
      try simp only [Act.put, List.setIfInBounds_toArray, List.set_cons_zero, List.set_cons_succ]
      refine wpAnyH_take (i := 9) (oi := ⟨some 6, _, _, _, _, _⟩) (v := ?_) rfl (by kernel_rfl) (by kernel_rfl) (by kernel_rfl) (fun _ _ _ h => h) (Or.inl ⟨by rfl, ?_⟩) (by assumption) ?_
      rotate_left
      · (intro w9 hSw; (try dsimp only at hSw); go_simp; try with_reducible rfl)
      try simp only [Act.put, List.setIfInBounds_toArray, List.set_cons_zero, List.set_cons_succ]
      refine wpAnyH_done (by kernel_rfl) ?_ _
      have hfin : Below w12.heap.size w12 _ := hHeld
      have hB9 := bt T12.out.b hfin
      clear hfin hHeld
      go_wp2
      go_ret
      exact ⟨rfl, hB9⟩
  · have HS2 := Lib.hid HS1
    have HRP2 := Lib.hid HRP
    clear HS1 HRP
    go_upto_region 10 with fail
    clear t0 t1 t2
    refine wp_region_held_drew (S := fun W => Below w11.heap.size w11 W) (by kernel_rfl) (Below.refl _ _).drew (fun hHeld => ?_)
    refine wpAnyH_take (i := 0) (oi := ⟨some 83, _, _, _, _, _⟩) (v := .bool false) rfl (by kernel_rfl) (by kernel_rfl) (by kernel_rfl) (fun _ _ _ h => h) (Or.inl ⟨by rfl, ?_⟩) (by assumption) ?_
    · (intro w9 hSw; (try dsimp only at hSw); go_simp)
    try simp only [Act.put, List.setIfInBounds_toArray, List.set_cons_zero, List.set_cons_succ]
    refine wpAnyH_take (i := 1) (oi := ⟨some 84, _, _, _, _, _⟩) (v := .bool false) rfl (by kernel_rfl) (by kernel_rfl) (by kernel_rfl) (fun _ _ _ h => h) (Or.inl ⟨by rfl, ?_⟩) (by assumption) ?_
    · (intro w9 hSw; (try dsimp only at hSw); go_simp)
    try simp only [Act.put, List.setIfInBounds_toArray, List.set_cons_zero, List.set_cons_succ]
    refine wpAnyH_take (i := 2) (oi := ⟨some 85, _, _, _, _, _⟩) (v := undef) rfl (by kernel_rfl) (by kernel_rfl) (by kernel_rfl) (fun _ _ _ h => h) (Or.inr ⟨by rfl, rfl⟩) (by assumption) ?_
    try simp only [Act.put, List.setIfInBounds_toArray, List.set_cons_zero, List.set_cons_succ]
    refine wpAnyH_take (i := 3) (oi := ⟨some 86, _, _, _, _, _⟩) (v := undef) rfl (by kernel_rfl) (by kernel_rfl) (by kernel_rfl) (fun _ _ _ h => h) (Or.inr ⟨by rfl, rfl⟩) (by assumption) ?_
    try simp only [Act.put, List.setIfInBounds_toArray, List.set_cons_zero, List.set_cons_succ]
    refine wpAnyH_take (i := 4) (oi := ⟨some 87, _, _, _, _, _⟩) (v := undef) rfl (by kernel_rfl) (by kernel_rfl) (by kernel_rfl) (fun _ _ _ h => h) (Or.inr ⟨by rfl, rfl⟩) (by assumption) ?_
    try simp only [Act.put, List.setIfInBounds_toArray, List.set_cons_zero, List.set_cons_succ]
    refine wpAnyH_take (i := 5) (oi := ⟨some 88, _, _, _, _, _⟩) (v := undef) rfl (by kernel_rfl) (by kernel_rfl) (by kernel_rfl) (fun _ _ _ h => h) (Or.inr ⟨by rfl, rfl⟩) (by assumption) ?_
    try simp only [Act.put, List.setIfInBounds_toArray, List.set_cons_zero, List.set_cons_succ]
    refine wpAnyH_take (i := 6) (oi := ⟨some 89, _, _, _, _, _⟩) (v := undef) rfl (by kernel_rfl) (by kernel_rfl) (by kernel_rfl) (fun _ _ _ h => h) (Or.inr ⟨by rfl, rfl⟩) (by assumption) ?_
    try simp only [Act.put, List.setIfInBounds_toArray, List.set_cons_zero, List.set_cons_succ]
    refine wpAnyH_take (i := 7) (oi := ⟨some 90, _, _, _, _, _⟩) (v := undef) rfl (by kernel_rfl) (by kernel_rfl) (by kernel_rfl) (fun _ _ _ h => h) (Or.inr ⟨by rfl, rfl⟩) (by assumption) ?_
    try simp only [Act.put, List.setIfInBounds_toArray, List.set_cons_zero, List.set_cons_succ]
    refine wpAnyH_take (i := 8) (oi := ⟨some 91, _, _, _, _, _⟩) (v := undef) rfl (by kernel_rfl) (by kernel_rfl) (by kernel_rfl) (fun _ _ _ h => h) (Or.inr ⟨by rfl, rfl⟩) (by assumption) ?_
    try simp only [Act.put, List.setIfInBounds_toArray, List.set_cons_zero, List.set_cons_succ]
    refine wpAnyH_take (i := 9) (oi := ⟨some 92, _, _, _, _, _⟩) (v := undef) rfl (by kernel_rfl) (by kernel_rfl) (by kernel_rfl) (fun _ _ _ h => h) (Or.inr ⟨by rfl, rfl⟩) (by assumption) ?_
    try simp only [Act.put, List.setIfInBounds_toArray, List.set_cons_zero, List.set_cons_succ]
    refine wpAnyH_take (i := 10) (oi := ⟨some 93, _, _, _, _, _⟩) (v := .bool false) rfl (by kernel_rfl) (by kernel_rfl) (by kernel_rfl) (fun _ _ _ h => h) (Or.inl ⟨by rfl, ?_⟩) (by assumption) ?_
    · (intro w9 hSw; (try dsimp only at hSw); go_simp)
    try simp only [Act.put, List.setIfInBounds_toArray, List.set_cons_zero, List.set_cons_succ]
    refine wpAnyH_take (i := 11) (oi := ⟨some 94, _, _, _, _, _⟩) (v := .bool false) rfl (by kernel_rfl) (by kernel_rfl) (by kernel_rfl) (fun _ _ _ h => h) (Or.inl ⟨by rfl, ?_⟩) (by assumption) ?_
    · (intro w9 hSw; (try dsimp only at hSw); go_simp)
    try simp only [Act.put, List.setIfInBounds_toArray, List.set_cons_zero, List.set_cons_succ]
    refine wpAnyH_take (i := 12) (oi := ⟨some 95, _, _, _, _, _⟩) (v := .bool false) rfl (by kernel_rfl) (by kernel_rfl) (by kernel_rfl) (fun _ _ _ h => h) (Or.inl ⟨by rfl, ?_⟩) (by assumption) ?_
    · (intro w9 hSw; (try dsimp only at hSw); go_simp)
    try simp only [Act.put, List.setIfInBounds_toArray, List.set_cons_zero, List.set_cons_succ]
    refine wpAnyH_take (i := 13) (oi := ⟨some 96, _, _, _, _, _⟩) (v := .bool true) rfl (by kernel_rfl) (by kernel_rfl) (by kernel_rfl) (fun _ _ _ h => h) (Or.inl ⟨by rfl, ?_⟩) (by assumption) ?_
    · (intro w9 hSw; (try dsimp only at hSw); go_simp)
    try simp only [Act.put, List.setIfInBounds_toArray, List.set_cons_zero, List.set_cons_succ]
    refine wpAnyH_take (i := 14) (oi := ⟨some 97, _, _, _, _, _⟩) (v := .bool true) rfl (by kernel_rfl) (by kernel_rfl) (by kernel_rfl) (fun _ _ _ h => h) (Or.inl ⟨by rfl, ?_⟩) (by assumption) ?_
    · (intro w9 hSw; (try dsimp only at hSw); go_simp)
    try simp only [Act.put, List.setIfInBounds_toArray, List.set_cons_zero, List.set_cons_succ]
    refine wpAnyH_take (i := 15) (oi := ⟨some 98, _, _, _, _, _⟩) (v := .int .i64 0) rfl (by kernel_rfl) (by kernel_rfl) (by kernel_rfl) (fun _ _ _ h => h) (Or.inl ⟨by rfl, ?_⟩) (by assumption) ?_
    · (intro w9 hSw; (try dsimp only at hSw); go_simp)
    try simp only [Act.put, List.setIfInBounds_toArray, List.set_cons_zero, List.set_cons_succ]
    refine wpAnyH_take (i := 16) (oi := ⟨some 99, _, _, _, _, _⟩) (v := .bool false) rfl (by kernel_rfl) (by kernel_rfl) (by kernel_rfl) (fun _ _ _ h => h) (Or.inl ⟨by rfl, ?_⟩) (by assumption) ?_
    · (intro w9 hSw; (try dsimp only at hSw); go_simp)
    try simp only [Act.put, List.setIfInBounds_toArray, List.set_cons_zero, List.set_cons_succ]
    refine wpAnyH_take (i := 17) (oi := ⟨some 100, _, _, _, _, _⟩) (v := .bool false) rfl (by kernel_rfl) (by kernel_rfl) (by kernel_rfl) (fun _ _ _ h => h) (Or.inl ⟨by rfl, ?_⟩) (by assumption) ?_
    · (intro w9 hSw; (try dsimp only at hSw); go_simp)
    try simp only [Act.put, List.setIfInBounds_toArray, List.set_cons_zero, List.set_cons_succ]
    refine wpAnyH_take (i := 18) (oi := ⟨some 101, _, _, _, _, _⟩) (v := qv r.a r.n r.c r.f r.m) rfl (by kernel_rfl) (by kernel_rfl) (by kernel_rfl) (fun _ _ _ h => h) (Or.inl ⟨by rfl, ?_⟩) (by assumption) ?_
    · (intro w9 hSw; obtain ⟨⟨u0, u1, u2⟩, _⟩ := qcells (T11.out.sp.below hSw); (try dsimp only at hSw); go_simp)
    try simp only [Act.put, List.setIfInBounds_toArray, List.set_cons_zero, List.set_cons_succ]
    refine wpAnyH_take (i := 19) (oi := ⟨some 102, _, _, _, _, _⟩) (v := qv A n c f m) rfl (by kernel_rfl) (by kernel_rfl) (by kernel_rfl) (fun _ _ _ h => h) (Or.inl ⟨by rfl, ?_⟩) (by assumption) ?_
    · (intro w9 hSw; obtain ⟨⟨u0, u1, u2⟩, _⟩ := qcells (T11.out.k.below hSw); (try dsimp only at hSw); go_simp)
    try simp only [Act.put, List.setIfInBounds_toArray, List.set_cons_zero, List.set_cons_succ]
    refine wpAnyH_take (i := 20) (oi := ⟨some 103, _, _, _, _, _⟩) (v := sv s) rfl (by kernel_rfl) (by kernel_rfl) (by kernel_rfl) (fun _ _ _ h => h) (Or.inl ⟨by rfl, ?_⟩) (by assumption) ?_
    · (intro w9 hSw; (try dsimp only at hSw); go_simp)
    try simp only [Act.put, List.setIfInBounds_toArray, List.set_cons_zero, List.set_cons_succ]
    refine wpAnyH_ready (rs := [21]) (by kernel_rfl) (by simp) ?_
    refine AllReadyH.cons (o := ⟨some 104, _, _, _, _, _⟩) rfl (fun K9 hK9 => ?_) AllReadyH.nil
    have hcur : Below w11.heap.size w11 _ := hHeld
    go_simp; go_at_call 18
    refine (HRP2.out _ (bt T11.out.b hcur)).mono ?_
    rintro e w13 ⟨r3, rfl, hR3, hb13⟩
    have T13 := Lib.hid (And.intro (T11.out.later HPk.out HDk.out (bt hcur hb13)) hR3)
    clear hR3
    refine hK9.out _ _ ?_ (fun hHeld => ?_)
    · exact bt hcur hb13
    clear hK9 K9
    try simp only [Act.put, List.setIfInBounds_toArray, List.set_cons_zero, List.set_cons_succ]
    refine wpAnyH_ready (rs := [22]) (by kernel_rfl) (by simp) ?_
    refine AllReadyH.cons (o := ⟨some 105, _, _, _, _, _⟩) rfl (fun K9 hK9 => ?_) AllReadyH.nil
    have hcu2 : Below w11.heap.size w11 _ := hHeld
    go_simp; go_at_call 11
    refine (HS2.out _ _ _ T13.out.1.pp T13.out.2).mono ?_
    rintro e w12 ⟨rfl, hb12⟩
    refine hK9.out _ _ ?_ (fun hHeld => ?_)
    · exact bt hcu2 hb12
    clear hK9 K9
    try simp only [Act.put, List.setIfInBounds_toArray, List.set_cons_zero, List.set_cons_succ]
    refine wpAnyH_take (i := 23) (oi := ⟨some 106, _, _, _, _, _⟩) (v := .bool false) rfl (by kernel_rfl) (by kernel_rfl) (by kernel_rfl) (fun _ _ _ h => h) (Or.inl ⟨by rfl, ?_⟩) (by assumption) ?_
    · (intro w9 hSw; (try dsimp only at hSw); go_simp)
    try simp only [Act.put, List.setIfInBounds_toArray, List.set_cons_zero, List.set_cons_succ]
    refine wpAnyH_take (i := 24) (oi := ⟨some 107, _, _, _, _, _⟩) (v := .bool false) rfl (by kernel_rfl) (by kernel_rfl) (by kernel_rfl) (fun _ _ _ h => h) (Or.inl ⟨by rfl, ?_⟩) (by assumption) ?_
    · (intro w9 hSw; (try dsimp only at hSw); go_simp)
    try simp only [Act.put, List.setIfInBounds_toArray, List.set_cons_zero, List.set_cons_succ]
    refine wpAnyH_take (i := 25) (oi := ⟨some 108, _, _, _, _, _⟩) (v := .bool false) rfl (by kernel_rfl) (by kernel_rfl) (by kernel_rfl) (fun _ _ _ h => h) (Or.inl ⟨by rfl, ?_⟩) (by assumption) ?_
    · (intro w9 hSw; (try dsimp only at hSw); go_simp)
    try simp only [Act.put, List.setIfInBounds_toArray, List.set_cons_zero, List.set_cons_succ]
    refine wpAnyH_take (i := 26) (oi := ⟨some 109, _, _, _, _, _⟩) (v := .bool false) rfl (by kernel_rfl) (by kernel_rfl) (by kernel_rfl) (fun _ _ _ h => h) (Or.inl ⟨by rfl, ?_⟩) (by assumption) ?_
    · (intro w9 hSw; (try dsimp only at hSw); go_simp)
    try simp only [Act.put, List.setIfInBounds_toArray, List.set_cons_zero, List.set_cons_succ]
    refine wpAnyH_done (by kernel_rfl) ?_ _
    have hfin : Below w11.heap.size w11 _ := hHeld
    have T12 := Lib.hid (T11.out.later HPk.out HDk.out hfin)
    clear hfin hHeld T11 P1
    obtain ⟨⟨t0, t1, t2⟩, _⟩ := qcells T12.out.k
    obtain ⟨⟨t3, t4, t5⟩, _⟩ := qcells T12.out.sd
    rcases P2.out with ⟨p1, rfl, HS3⟩ | ⟨p1, p2, rfl, HS3⟩ | ⟨p1, p2, rfl, HRD, HS3⟩
    · have HS4 := Lib.hid HS3
      clear HS3 P2
      go_wp2_with fail
      refine (HS4.out _ _ T12.out.dd).mono ?_
      rintro e w13 ⟨rfl, hb13⟩
      go_wp2
      go_ret
      exact ⟨rfl, bt T12.out.b hb13⟩
    · have HS4 := Lib.hid HS3
      clear HS3 P2
      go_wp2_with fail
      refine (HS4.out _ _ T12.out.dd).mono ?_
      rintro e w13 ⟨rfl, hb13⟩
      go_wp2
      go_ret
      exact ⟨rfl, bt T12.out.b hb13⟩
    · have HRD2 := Lib.hid HRD
      have HS4 := Lib.hid HS3
      have hkm := p2
      clear HRD HS3 t0 t1 t2 t3 t4 t5 p2 P2
      have t2 := (qcells T12.out.k).1.2.2
      go_upto_region 14 with fail
      clear t2
      refine wp_region_held_drew (S := fun W => Below w12.heap.size w12 W) (by kernel_rfl) (Below.refl _ _).drew (fun hHeld => ?_)
      refine wpAnyH_take (i := 0) (oi := ⟨some 125, _, _, _, _, _⟩) (v := .int .i64 0) rfl (by kernel_rfl) (by kernel_rfl) (by kernel_rfl) (fun _ _ _ h => h) (Or.inl ⟨by rfl, ?_⟩) (by assumption) ?_
      · (intro w9 hSw; (try dsimp only at hSw); go_simp)
      try simp only [Act.put, List.setIfInBounds_toArray, List.set_cons_zero, List.set_cons_succ]
      refine wpAnyH_take (i := 1) (oi := ⟨some 126, _, _, _, _, _⟩) (v := .bool true) rfl (by kernel_rfl) (by kernel_rfl) (by kernel_rfl) (fun _ _ _ h => h) (Or.inl ⟨by rfl, ?_⟩) (by assumption) ?_
      · (intro w9 hSw; (try dsimp only at hSw); go_simp)
      try simp only [Act.put, List.setIfInBounds_toArray, List.set_cons_zero, List.set_cons_succ]
      refine wpAnyH_take (i := 2) (oi := ⟨some 127, _, _, _, _, _⟩) (v := .bool true) rfl (by kernel_rfl) (by kernel_rfl) (by kernel_rfl) (fun _ _ _ h => h) (Or.inl ⟨by rfl, ?_⟩) (by assumption) ?_
      · (intro w9 hSw; (try dsimp only at hSw); go_simp)
      try simp only [Act.put, List.setIfInBounds_toArray, List.set_cons_zero, List.set_cons_succ]
      refine wpAnyH_take (i := 3) (oi := ⟨some 128, _, _, _, _, _⟩) (v := qv r2.a r2.n r2.c r2.f r2.m) rfl (by kernel_rfl) (by kernel_rfl) (by kernel_rfl) (fun _ _ _ h => h) (Or.inl ⟨by rfl, ?_⟩) (by assumption) ?_
      · (intro w9 hSw; obtain ⟨⟨u0, u1, u2⟩, _⟩ := qcells (T12.out.sd.below hSw); (try dsimp only at hSw); go_simp)
      try simp only [Act.put, List.setIfInBounds_toArray, List.set_cons_zero, List.set_cons_succ]
      refine wpAnyH_take (i := 4) (oi := ⟨some 129, _, _, _, _, _⟩) (v := qv A n c f m) rfl (by kernel_rfl) (by kernel_rfl) (by kernel_rfl) (fun _ _ _ h => h) (Or.inl ⟨by rfl, ?_⟩) (by assumption) ?_
      · (intro w9 hSw; obtain ⟨⟨u0, u1, u2⟩, _⟩ := qcells (T12.out.k.below hSw); (try dsimp only at hSw); go_simp)
      try simp only [Act.put, List.setIfInBounds_toArray, List.set_cons_zero, List.set_cons_succ]
      refine wpAnyH_take (i := 5) (oi := ⟨some 130, _, _, _, _, _⟩) (v := .int .i64 k) rfl (by kernel_rfl) (by kernel_rfl) (by kernel_rfl) (fun _ _ _ h => h) (Or.inl ⟨by rfl, ?_⟩) (by assumption) ?_
      · (intro w9 hSw; (try dsimp only at hSw); go_simp)
      try simp only [Act.put, List.setIfInBounds_toArray, List.set_cons_zero, List.set_cons_succ]
      refine wpAnyH_ready (rs := [6]) (by kernel_rfl) (by simp) ?_
      refine AllReadyH.cons (o := ⟨some 131, _, _, _, _, _⟩) rfl (fun K9 hK9 => ?_) AllReadyH.nil
      have hcur : Below w12.heap.size w12 _ := hHeld
      go_simp; go_at_call 19
      refine (HRD2.out _ (bt T12.out.b hcur)).mono ?_
      rintro e w13 ⟨r3, rfl, hR3, hb13⟩
      have T13 := Lib.hid (And.intro (T12.out.later HPk.out HDk.out (bt hcur hb13)) hR3)
      clear hR3
      refine hK9.out _ _ ?_ (fun hHeld => ?_)
      · exact bt hcur hb13
      clear hK9 K9
      try simp only [Act.put, List.setIfInBounds_toArray, List.set_cons_zero, List.set_cons_succ]
      refine wpAnyH_ready (rs := [7]) (by kernel_rfl) (by simp) ?_
      refine AllReadyH.cons (o := ⟨some 132, _, _, _, _, _⟩) rfl (fun K9 hK9 => ?_) AllReadyH.nil
      have hcu2 : Below w12.heap.size w12 _ := hHeld
      go_simp; go_at_call 11
      refine (HS4.out _ _ _ T13.out.1.dd T13.out.2).mono ?_
      rintro e w14 ⟨rfl, hb14⟩
      refine hK9.out _ _ ?_ (fun hHeld => ?_)
      · exact bt hcu2 hb14
      clear hK9 K9
      try simp only [Act.put, List.setIfInBounds_toArray, List.set_cons_zero, List.set_cons_succ]
      refine wpAnyH_take (i := 8) (oi := ⟨some 133, _, _, _, _, _⟩) (v := .bool true) rfl (by kernel_rfl) (by kernel_rfl) (by kernel_rfl) (fun _ _ _ h => h) (Or.inl ⟨by rfl, ?_⟩) (by assumption) ?_
      · (intro w9 hSw; (try dsimp only at hSw); go_simp)
      try simp only [Act.put, List.setIfInBounds_toArray, List.set_cons_zero, List.set_cons_succ]
      refine wpAnyH_take (i := 9) (oi := ⟨some 6, _, _, _, _, _⟩) (v := ?_) rfl (by kernel_rfl) (by kernel_rfl) (by kernel_rfl) (fun _ _ _ h => h) (Or.inl ⟨by rfl, ?_⟩) (by assumption) ?_
      rotate_left
      · (intro w9 hSw; (try dsimp only at hSw); go_simp; try with_reducible rfl)
      try simp only [Act.put, List.setIfInBounds_toArray, List.set_cons_zero, List.set_cons_succ]
      refine wpAnyH_done (by kernel_rfl) ?_ _
      have hfin : Below w12.heap.size w12 _ := hHeld
      have hB9 := bt T12.out.b hfin
      clear hfin hHeld
      go_wp2
      go_ret
      exact ⟨rfl, hB9⟩
end Go.Proofs.Ytnehodipblabbaa
