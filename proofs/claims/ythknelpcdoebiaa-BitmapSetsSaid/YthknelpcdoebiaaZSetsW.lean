/- The walk of BitmapSets. -/
import Derived.Test.YthknelpcdoebiaaZRow
import Derived.Test.YthknelpcdoebiaaZOwn
import Derived.Test.YthknelpcdoebiaaZGetC
namespace Go.Proofs.Ythknelpcdoebiaa
open Go.RowKit

set_option maxRecDepth 100000 in
set_option maxHeartbeats 8000000 in
theorem sets_no (N i : Int) (A : Option Addr) (n n2 c F : Nat) (b : Bool) (ee : Int) (r : Bool) (w : World)
    (HFew : Hid (∀ W, Calls Try.prog 7 #[zbv N A n c F] W fun e w' => e = .returned (zbv N A n2 c F) ∧ Below W.heap.size W w'))
    (HSet : Hid (∀ W, Below w.heap.size w W → Calls Try.prog 15 #[zbv N A n2 c F, .int .i64 i, .bool b] W fun e w' => e = .returned (.tuple #[.agg #[.int .i64 0, .slice none 0 0, .int .u64 0], .int .i64 ee]) ∧ Below W.heap.size W w'))
    (HGet : Hid (∀ W, Below w.heap.size w W → Calls Try.prog 16 #[zbv N A n2 c F, .int .i64 i] W fun e w' => e = .returned (.tuple #[.bool false, .int .i64 ee]) ∧ Below W.heap.size W w'))
    (HRR : Hid (∀ W, Below w.heap.size w W → Calls Try.prog 10 #[zbv N A n2 c F] W fun e w' => e = .returned (.bool r) ∧ Below W.heap.size W w'))
    (HS : Hid (∀ W, Calls Try.prog 12 #[.agg #[.int .i64 0, .slice none 0 0, .int .u64 0], .agg #[.int .i64 0, .slice none 0 0, .int .u64 0]] W fun e w' => e = .returned (.bool true) ∧ Below W.heap.size W w'))
    (HL : Hid (∀ W, Calls Try.prog 13 #[] W fun e w' => e = .returned (.bool true) ∧ Below W.heap.size W w'))
    (P : (r = false ∧ ee = 1) ∨ (r = true ∧ ee = 2 ∧ i < 0) ∨ (r = true ∧ ee = 2 ∧ 0 ≤ i ∧ N ≤ i)) :
    Calls Try.prog 4 #[zbv N A n c F, .int .i64 i, .bool b] w fun e w' => e = .returned (.bool true) ∧ Below w.heap.size w w' := by
  have HB := Lib.hid (zbox_below w N A n c F)
  have HK := Lib.hid (zbox_blk w N A n c F)
  rcases P with ⟨rfl, rfl⟩ | ⟨rfl, rfl, p1⟩ | ⟨rfl, rfl, p1, p2⟩
  all_goals
    go_enter Try.func4, Try.ntmps4
    go_wp2_with fail
    refine (HFew.out _).mono ?_
    rintro e w1 ⟨rfl, hb1⟩
    have k1 := HK.out.below hb1
    obtain ⟨⟨q0, q1, q2⟩, f0, f1, f2⟩ := zcells k1
    have B2 : Hid (Below w.heap.size w (((w1.setCell ⟨w.heap.size, 0, none⟩ (.int .i64 N)).setCell ⟨w.heap.size, 1, none⟩ (.slice A n2 c)).setCell ⟨w.heap.size, 2, none⟩ (zq F))) := Lib.hid (bs (bs (bs (bt HB.out hb1) (Nat.le_refl _) _) (Nat.le_refl _) _) (Nat.le_refl _) _)
    have K2 : Hid (Blk (((w1.setCell ⟨w.heap.size, 0, none⟩ (.int .i64 N)).setCell ⟨w.heap.size, 1, none⟩ (.slice A n2 c)).setCell ⟨w.heap.size, 2, none⟩ (zq F)) w.heap.size 25 (zcs N A n2 c F)) := Lib.hid (((k1.set_ 0 _).set_ 1 _).set_ 2 _)
    clear k1 hb1
    go_wp2_with fail
    generalize (((w1.setCell ⟨w.heap.size, 0, none⟩ (.int .i64 N)).setCell ⟨w.heap.size, 1, none⟩ (.slice A n2 c)).setCell ⟨w.heap.size, 2, none⟩ (zq F)) = w2 at B2 K2 ⊢
    clear q0 q1 q2 f0 f1 f2
    refine (HSet.out _ B2.out).mono ?_
    rintro e w3 ⟨rfl, hb3⟩
    have k3 := K2.out.below hb3
    obtain ⟨⟨q0, q1, q2⟩, _⟩ := zcells k3
    have B4 : Hid (Below w.heap.size w (w3.alloc (.cells #[.int .i64 0, .slice none 0 0, .int .u64 0] 25))) := Lib.hid (ba (bt B2.out hb3) _)
    have K4 : Hid (Blk (w3.alloc (.cells #[.int .i64 0, .slice none 0 0, .int .u64 0] 25)) w.heap.size 25 (zcs N A n2 c F)) := Lib.hid (k3.alloc _)
    have S4 : Hid (Blk (w3.alloc (.cells #[.int .i64 0, .slice none 0 0, .int .u64 0] 25)) w3.heap.size 25 #[.int .i64 0, .slice none 0 0, .int .u64 0]) := Lib.hid (Blk.new _ _ _)
    obtain ⟨⟨t0, t1, t2⟩, _⟩ := zcells K4.out
    clear k3 hb3 B2 K2
    go_wp2_with fail
    generalize w3.alloc (.cells #[.int .i64 0, .slice none 0 0, .int .u64 0] 25) = w4 at B4 K4 S4 t0 t1 t2 ⊢
    clear q0 q1 q2 t0 t1 t2
    refine (HGet.out _ B4.out).mono ?_
    rintro e w5 ⟨rfl, hb5⟩
    have B5 := Lib.hid (bt B4.out hb5)
    have K5 := Lib.hid (K4.out.below hb5)
    have S5 := Lib.hid (S4.out.below hb5)
    clear hb5 B4 K4 S4
    obtain ⟨⟨q0, q1, q2⟩, _⟩ := zcells K5.out
    go_wp2_with fail
    refine (HRR.out _ B5.out).mono ?_
    rintro e w6 ⟨rfl, hb6⟩
    have B6 := Lib.hid (bt B5.out hb6)
    have K6 := Lib.hid (K5.out.below hb6)
    have S6 := Lib.hid (S5.out.below hb6)
    clear hb6 B5 K5 S5 q0 q1 q2
    obtain ⟨⟨q0, q1, q2⟩, _⟩ := zcells K6.out
    go_wp2_with fail
    refine (HL.out _).mono ?_
    rintro e w7 ⟨rfl, hb7⟩
    have B7 := Lib.hid (bt B6.out hb7)
    have S7 := Lib.hid (S6.out.below hb7)
    clear hb7 B6 K6 S6 q0 q1 q2
    obtain ⟨⟨q0, q1, q2⟩, _⟩ := zcells S7.out
    go_wp2_with fail
    refine (HS.out _).mono ?_
    rintro e w8 ⟨rfl, hb8⟩
    go_wp2
    go_ret
    exact ⟨rfl, bt B7.out hb8⟩

set_option maxRecDepth 100000 in
set_option maxHeartbeats 8000000 in
theorem sets_yes (N i : Int) (A : Option Addr) (n n2 c F G : Nat) (T : List Nat) (b t : Bool) (w : World)
    (HFew : Hid (∀ W, Calls Try.prog 7 #[zbv N A n c F] W fun e w' => e = .returned (zbv N A n2 c F) ∧ Below W.heap.size W w'))
    (HSet : Hid (∀ W, Below w.heap.size w W → Calls Try.prog 15 #[zbv N A n2 c F, .int .i64 i, .bool b] W fun e w' => ∃ A' c', e = .returned (.tuple #[zbv N A' n2 c' G, .int .i64 0]) ∧ ZM w' A' n2 c' T G ∧ Below W.heap.size W w'))
    (HGet : Hid (∀ W, Below w.heap.size w W → Calls Try.prog 16 #[zbv N A n2 c F, .int .i64 i] W fun e w' => e = .returned (.tuple #[.bool t, .int .i64 0]) ∧ Below W.heap.size W w'))
    (HRR : Hid (∀ W, Below w.heap.size w W → Calls Try.prog 10 #[zbv N A n2 c F] W fun e w' => e = .returned (.bool true) ∧ Below W.heap.size W w'))
    (HTk : Hid (∀ W, Below w.heap.size w W → Calls Try.prog 17 #[zbv N A n2 c F, .int .i64 i] W fun e w' => e = .returned (.bool t) ∧ Below W.heap.size W w'))
    (HRS : Hid (∀ W, Below w.heap.size w W → Calls Try.prog 18 #[zbv N A n2 c F, .int .i64 i, .bool b] W fun e w' => ∃ A' c', e = .returned (zbv N A' n2 c' G) ∧ ZM w' A' n2 c' T G ∧ Below W.heap.size W w'))
    (HS : Hid (∀ W A1 c1 A2 c2, ZM W A1 n2 c1 T G → ZM W A2 n2 c2 T G → Calls Try.prog 12 #[zbv N A1 n2 c1 G, zbv N A2 n2 c2 G] W fun e w' => e = .returned (.bool true) ∧ Below W.heap.size W w'))
    (HL : Hid (∀ W, Calls Try.prog 13 #[] W fun e w' => e = .returned (.bool true) ∧ Below W.heap.size W w'))
    (p1 : 0 ≤ i) (p2 : i < N) :
    Calls Try.prog 4 #[zbv N A n c F, .int .i64 i, .bool b] w fun e w' => e = .returned (.bool true) ∧ Below w.heap.size w w' := by
  have HB := Lib.hid (zbox_below w N A n c F)
  have HK := Lib.hid (zbox_blk w N A n c F)
  cases t
  all_goals
    go_enter Try.func4, Try.ntmps4
    go_wp2_with fail
    refine (HFew.out _).mono ?_
    rintro e w1 ⟨rfl, hb1⟩
    have k1 := HK.out.below hb1
    obtain ⟨⟨q0, q1, q2⟩, f0, f1, f2⟩ := zcells k1
    have B2 : Hid (Below w.heap.size w (((w1.setCell ⟨w.heap.size, 0, none⟩ (.int .i64 N)).setCell ⟨w.heap.size, 1, none⟩ (.slice A n2 c)).setCell ⟨w.heap.size, 2, none⟩ (zq F))) := Lib.hid (bs (bs (bs (bt HB.out hb1) (Nat.le_refl _) _) (Nat.le_refl _) _) (Nat.le_refl _) _)
    have K2 : Hid (Blk (((w1.setCell ⟨w.heap.size, 0, none⟩ (.int .i64 N)).setCell ⟨w.heap.size, 1, none⟩ (.slice A n2 c)).setCell ⟨w.heap.size, 2, none⟩ (zq F)) w.heap.size 25 (zcs N A n2 c F)) := Lib.hid (((k1.set_ 0 _).set_ 1 _).set_ 2 _)
    clear k1 hb1
    go_wp2_with fail
    generalize (((w1.setCell ⟨w.heap.size, 0, none⟩ (.int .i64 N)).setCell ⟨w.heap.size, 1, none⟩ (.slice A n2 c)).setCell ⟨w.heap.size, 2, none⟩ (zq F)) = w2 at B2 K2 ⊢
    clear q0 q1 q2 f0 f1 f2
    refine (HSet.out _ B2.out).mono ?_
    rintro e w3 ⟨A3, c3, rfl, hM3, hb3⟩
    have k3 := K2.out.below hb3
    obtain ⟨⟨q0, q1, q2⟩, _⟩ := zcells k3
    have B4 : Hid (Below w.heap.size w (w3.alloc (.cells (zcs N A3 n2 c3 G) 25))) := Lib.hid (ba (bt B2.out hb3) _)
    have K4 : Hid (Blk (w3.alloc (.cells (zcs N A3 n2 c3 G) 25)) w.heap.size 25 (zcs N A n2 c F)) := Lib.hid (k3.alloc _)
    have S4 : Hid (Blk (w3.alloc (.cells (zcs N A3 n2 c3 G) 25)) w3.heap.size 25 (zcs N A3 n2 c3 G)) := Lib.hid (Blk.new _ _ _)
    have M4 : Hid (ZM (w3.alloc (.cells (zcs N A3 n2 c3 G) 25)) A3 n2 c3 T G) := Lib.hid (hM3.later (ba (Below.refl _ _) _))
    obtain ⟨⟨t0, t1, t2⟩, _⟩ := zcells K4.out
    clear k3 hb3 B2 K2 hM3
    go_wp2_with fail
    generalize w3.alloc (.cells (zcs N A3 n2 c3 G) 25) = w4 at B4 K4 S4 M4 t0 t1 t2 ⊢
    clear q0 q1 q2 t0 t1 t2
    refine (HGet.out _ B4.out).mono ?_
    rintro e w5 ⟨rfl, hb5⟩
    have B5 := Lib.hid (bt B4.out hb5)
    have K5 := Lib.hid (K4.out.below hb5)
    have S5 := Lib.hid (S4.out.below hb5)
    have M5 := Lib.hid (M4.out.later hb5)
    clear hb5 B4 K4 S4 M4
    obtain ⟨⟨q0, q1, q2⟩, _⟩ := zcells K5.out
    go_wp2_with fail
    refine (HRR.out _ B5.out).mono ?_
    rintro e w6 ⟨rfl, hb6⟩
    have B6 := Lib.hid (bt B5.out hb6)
    have K6 := Lib.hid (K5.out.below hb6)
    have S6 := Lib.hid (S5.out.below hb6)
    have M6 := Lib.hid (M5.out.later hb6)
    clear hb6 B5 K5 S5 M5 q0 q1 q2
    obtain ⟨⟨q0, q1, q2⟩, _⟩ := zcells K6.out
    go_wp2_with fail
    have cK := (zcells K6.out).1
    have cS := (zcells S6.out).1
    clear q0 q1 q2
    go_region_held3 (fun W => (W.cell? ⟨w.heap.size, 0, none⟩ = some (.int .i64 N) ∧ W.cell? ⟨w.heap.size, 1, none⟩ = some (.slice A n2 c) ∧ W.cell? ⟨w.heap.size, 2, none⟩ = some (zq F)) ∧ (W.cell? ⟨w3.heap.size, 0, none⟩ = some (.int .i64 N) ∧ W.cell? ⟨w3.heap.size, 1, none⟩ = some (.slice A3 n2 c3) ∧ W.cell? ⟨w3.heap.size, 2, none⟩ = some (zq G)) ∧ Below w6.heap.size w6 W) (first | assumption | exact ⟨cK, cS, (Below.refl _ _).drew⟩ | exact ⟨cK, cS, Below.refl _ _⟩) (first
      | (go_at_call 13; (with_reducible refine (HL.out _).mono ?_); rintro e w7 ⟨rfl, hb7⟩; have hB7 := bt (Below.refl w6.heap.size w6).drew hb7; have hS7 : _ ∧ _ ∧ Below w6.heap.size w6 w7 := ⟨(zcells (K6.out.below hB7)).1, (zcells (S6.out.below hB7)).1, hB7⟩)
      | (go_at_call 17; refine (HTk.out _ (bt B6.out hB7)).mono ?_; rintro e w8 ⟨rfl, hb8⟩; have hB8 := bt hB7 hb8; have hS8 : _ ∧ _ ∧ Below w6.heap.size w6 w8 := ⟨(zcells (K6.out.below hB8)).1, (zcells (S6.out.below hB8)).1, hB8⟩)
      | (go_at_call 18; refine (HRS.out _ (bt B6.out hB8)).mono ?_; rintro e w9 ⟨A9, c9, rfl, hM9, hb9⟩; have hB9 := bt hB8 hb9; have hS9 : _ ∧ _ ∧ Below w6.heap.size w6 w9 := ⟨(zcells (K6.out.below hB9)).1, (zcells (S6.out.below hB9)).1, hB9⟩; have M9 := Lib.hid (And.intro (M6.out.later hB9) hM9); clear hM9)
      | (go_at_call 12; refine (HS.out _ _ _ _ _ M9.out.1 M9.out.2).mono ?_; rintro e w10 ⟨rfl, hb10⟩; have hB10 := bt hB9 hb10; have hS10 : _ ∧ _ ∧ Below w6.heap.size w6 w10 := ⟨(zcells (K6.out.below hB10)).1, (zcells (S6.out.below hB10)).1, hB10⟩))
    go_wp2
    go_ret
    exact ⟨rfl, bt B6.out hB10⟩
end Go.Proofs.Ythknelpcdoebiaa
