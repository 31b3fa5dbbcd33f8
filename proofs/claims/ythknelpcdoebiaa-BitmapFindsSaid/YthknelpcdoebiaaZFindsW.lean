/- The walk of BitmapFinds. -/
import Derived.Test.YthknelpcdoebiaaZGetC
namespace Go.Proofs.Ythknelpcdoebiaa
open Go.RowKit

set_option maxRecDepth 100000 in
set_option maxHeartbeats 8000000 in
theorem finds_no (N : Int) (A : Option Addr) (n n2 c F : Nat) (many : Int) (w : World)
    (HFew : Hid (∀ W, Calls Try.prog 7 #[zbv N A n c F] W fun e w' => e = .returned (zbv N A n2 c F) ∧ Below W.heap.size W w'))
    (HC : Hid (∀ W, Below w.heap.size w W → Calls Try.prog 19 #[zbv N A n2 c F] W fun e w' => e = .returned (.tuple #[.int .i64 0, .int .i64 1]) ∧ Below W.heap.size W w'))
    (HF : Hid (∀ W, Below w.heap.size w W → Calls Try.prog 20 #[zbv N A n2 c F, .int .i64 many] W fun e w' => e = .returned (.tuple #[.int .i64 0, .int .i64 1]) ∧ Below W.heap.size W w'))
    (HRR : Hid (∀ W, Below w.heap.size w W → Calls Try.prog 10 #[zbv N A n2 c F] W fun e w' => e = .returned (.bool false) ∧ Below W.heap.size W w'))
    (HL : Hid (∀ W, Calls Try.prog 13 #[] W fun e w' => e = .returned (.bool true) ∧ Below W.heap.size W w')) :
    Calls Try.prog 5 #[zbv N A n c F, .int .i64 many] w fun e w' => e = .returned (.bool true) ∧ Below w.heap.size w w' := by
  have HB := Lib.hid (zbox_below w N A n c F)
  have HK := Lib.hid (zbox_blk w N A n c F)
  all_goals
    go_enter Try.func5, Try.ntmps5
    go_wp2_with fail
    refine (HFew.out _).mono ?_
    rintro e w1 ⟨rfl, hb1⟩
    have k1 := HK.out.below hb1
    obtain ⟨⟨q0, q1, q2⟩, f0, f1, f2⟩ := zcells k1
    have B2 : Hid (Below w.heap.size w (((w1.setCell ⟨w.heap.size, 0, none⟩ (.int .i64 N)).setCell ⟨w.heap.size, 1, none⟩ (.slice A n2 c)).setCell ⟨w.heap.size, 2, none⟩ (zq F))) := Lib.hid (bs (bs (bs (bt HB.out hb1) (Nat.le_refl _) _) (Nat.le_refl _) _) (Nat.le_refl _) _)
    have K2 : Hid (Blk (((w1.setCell ⟨w.heap.size, 0, none⟩ (.int .i64 N)).setCell ⟨w.heap.size, 1, none⟩ (.slice A n2 c)).setCell ⟨w.heap.size, 2, none⟩ (zq F)) w.heap.size 25 (zcs N A n2 c F)) := Lib.hid (((k1.set_ 0 _).set_ 1 _).set_ 2 _)
    clear k1 hb1
    go_wp2_with fail
    generalize (((w1.setCell ⟨w.heap.size, 0, none⟩ (.int .i64 N)).setCell ⟨w.heap.size, 1, none⟩ (.slice A n2 c)).setCell ⟨w.heap.size, 2, none⟩ (zq F)) = w2 at B2 K2 ⊢
    clear q0 q1 q2 f0 f1 f2
    refine (HC.out _ B2.out).mono ?_
    rintro e w3 ⟨rfl, hb3⟩
    have B3 := Lib.hid (bt B2.out hb3)
    have K3 := Lib.hid (K2.out.below hb3)
    clear hb3 B2 K2
    obtain ⟨⟨q0, q1, q2⟩, _⟩ := zcells K3.out
    go_wp2_with fail
    refine (HF.out _ B3.out).mono ?_
    rintro e w4 ⟨rfl, hb4⟩
    have B4 := Lib.hid (bt B3.out hb4)
    have K4 := Lib.hid (K3.out.below hb4)
    clear q0 q1 q2
    clear hb4 B3 K3
    obtain ⟨⟨q0, q1, q2⟩, _⟩ := zcells K4.out
    go_wp2_with fail
    refine (HRR.out _ B4.out).mono ?_
    rintro e w5 ⟨rfl, hb5⟩
    have B5 := Lib.hid (bt B4.out hb5)
    have K5 := Lib.hid (K4.out.below hb5)
    clear q0 q1 q2
    clear hb5 B4 K4
    obtain ⟨⟨q0, q1, q2⟩, _⟩ := zcells K5.out
    go_wp2_with fail
    refine (HL.out _).mono ?_
    rintro e w6 ⟨rfl, hb6⟩
    have B6 := Lib.hid (bt B5.out hb6)
    have K6 := Lib.hid (K5.out.below hb6)
    clear q0 q1 q2
    clear hb6 B5 K5
    obtain ⟨⟨q0, q1, q2⟩, _⟩ := zcells K6.out
    go_wp2
    go_ret
    exact ⟨rfl, B6.out⟩

set_option maxRecDepth 100000 in
set_option maxHeartbeats 8000000 in
theorem finds_yes (N : Int) (A : Option Addr) (n n2 c F : Nat) (many cnt x ee y : Int) (w : World)
    (HFew : Hid (∀ W, Calls Try.prog 7 #[zbv N A n c F] W fun e w' => e = .returned (zbv N A n2 c F) ∧ Below W.heap.size W w'))
    (HC : Hid (∀ W, Below w.heap.size w W → Calls Try.prog 19 #[zbv N A n2 c F] W fun e w' => e = .returned (.tuple #[.int .i64 cnt, .int .i64 0]) ∧ Below W.heap.size W w'))
    (HF : Hid (∀ W, Below w.heap.size w W → Calls Try.prog 20 #[zbv N A n2 c F, .int .i64 many] W fun e w' => e = .returned (.tuple #[.int .i64 x, .int .i64 ee]) ∧ Below W.heap.size W w'))
    (HRR : Hid (∀ W, Below w.heap.size w W → Calls Try.prog 10 #[zbv N A n2 c F] W fun e w' => e = .returned (.bool true) ∧ Below W.heap.size W w'))
    (HRC : Hid (∀ W, Below w.heap.size w W → Calls Try.prog 21 #[zbv N A n2 c F] W fun e w' => e = .returned (.int .i64 cnt) ∧ Below W.heap.size W w'))
    (HRF : Hid (∀ W, 1 ≤ many → Below w.heap.size w W → Calls Try.prog 22 #[zbv N A n2 c F, .int .i64 many] W fun e w' => e = .returned (.int .i64 y) ∧ Below W.heap.size W w'))
    (HL : Hid (∀ W, Calls Try.prog 13 #[] W fun e w' => e = .returned (.bool true) ∧ Below W.heap.size W w'))
    (P : (many < 1 ∧ ee = 4 ∧ x = 0) ∨ (1 ≤ many ∧ y = -1 ∧ ee = 6 ∧ x = 0) ∨ (1 ≤ many ∧ 0 ≤ y ∧ ee = 0 ∧ x = y)) :
    Calls Try.prog 5 #[zbv N A n c F, .int .i64 many] w fun e w' => e = .returned (.bool true) ∧ Below w.heap.size w w' := by
  have HB := Lib.hid (zbox_below w N A n c F)
  have HK := Lib.hid (zbox_blk w N A n c F)
  rcases P with ⟨p1, rfl, rfl⟩ | ⟨p1, rfl, rfl, rfl⟩ | ⟨p1, p2, rfl, rfl⟩
  all_goals
    go_enter Try.func5, Try.ntmps5
    go_wp2_with fail
    refine (HFew.out _).mono ?_
    rintro e w1 ⟨rfl, hb1⟩
    have k1 := HK.out.below hb1
    obtain ⟨⟨q0, q1, q2⟩, f0, f1, f2⟩ := zcells k1
    have B2 : Hid (Below w.heap.size w (((w1.setCell ⟨w.heap.size, 0, none⟩ (.int .i64 N)).setCell ⟨w.heap.size, 1, none⟩ (.slice A n2 c)).setCell ⟨w.heap.size, 2, none⟩ (zq F))) := Lib.hid (bs (bs (bs (bt HB.out hb1) (Nat.le_refl _) _) (Nat.le_refl _) _) (Nat.le_refl _) _)
    have K2 : Hid (Blk (((w1.setCell ⟨w.heap.size, 0, none⟩ (.int .i64 N)).setCell ⟨w.heap.size, 1, none⟩ (.slice A n2 c)).setCell ⟨w.heap.size, 2, none⟩ (zq F)) w.heap.size 25 (zcs N A n2 c F)) := Lib.hid (((k1.set_ 0 _).set_ 1 _).set_ 2 _)
    clear k1 hb1
    go_wp2_with fail
    generalize (((w1.setCell ⟨w.heap.size, 0, none⟩ (.int .i64 N)).setCell ⟨w.heap.size, 1, none⟩ (.slice A n2 c)).setCell ⟨w.heap.size, 2, none⟩ (zq F)) = w2 at B2 K2 ⊢
    clear q0 q1 q2 f0 f1 f2
    refine (HC.out _ B2.out).mono ?_
    rintro e w3 ⟨rfl, hb3⟩
    have B3 := Lib.hid (bt B2.out hb3)
    have K3 := Lib.hid (K2.out.below hb3)
    clear hb3 B2 K2
    obtain ⟨⟨q0, q1, q2⟩, _⟩ := zcells K3.out
    go_wp2_with fail
    refine (HF.out _ B3.out).mono ?_
    rintro e w4 ⟨rfl, hb4⟩
    have B4 := Lib.hid (bt B3.out hb4)
    have K4 := Lib.hid (K3.out.below hb4)
    clear q0 q1 q2
    clear hb4 B3 K3
    obtain ⟨⟨q0, q1, q2⟩, _⟩ := zcells K4.out
    go_wp2_with fail
    refine (HRR.out _ B4.out).mono ?_
    rintro e w5 ⟨rfl, hb5⟩
    have B5 := Lib.hid (bt B4.out hb5)
    have K5 := Lib.hid (K4.out.below hb5)
    clear q0 q1 q2
    clear hb5 B4 K4
    obtain ⟨⟨q0, q1, q2⟩, _⟩ := zcells K5.out
    go_wp2_with fail
    refine (HRC.out _ B5.out).mono ?_
    rintro e w6 ⟨rfl, hb6⟩
    have B6 := Lib.hid (bt B5.out hb6)
    have K6 := Lib.hid (K5.out.below hb6)
    clear q0 q1 q2
    clear hb6 B5 K5
    obtain ⟨⟨q0, q1, q2⟩, _⟩ := zcells K6.out
    go_wp2_with fail
    refine (HL.out _).mono ?_
    rintro e w7 ⟨rfl, hb7⟩
    have B7 := Lib.hid (bt B6.out hb7)
    have K7 := Lib.hid (K6.out.below hb7)
    clear q0 q1 q2
    clear hb7 B6 K6
    obtain ⟨⟨q0, q1, q2⟩, _⟩ := zcells K7.out
  · go_wp2
    go_ret
    exact ⟨rfl, B7.out⟩
  · go_wp2_with fail
    refine (HRF.out _ p1 B7.out).mono ?_
    rintro e w8 ⟨rfl, hb8⟩
    have B8 := Lib.hid (bt B7.out hb8)
    have K8 := Lib.hid (K7.out.below hb8)
    clear q0 q1 q2
    clear hb8 B7 K7
    obtain ⟨⟨q0, q1, q2⟩, _⟩ := zcells K8.out
    go_wp2
    go_ret
    exact ⟨rfl, B8.out⟩
  · go_wp2_with fail
    refine (HRF.out _ p1 B7.out).mono ?_
    rintro e w8 ⟨rfl, hb8⟩
    have B8 := Lib.hid (bt B7.out hb8)
    have K8 := Lib.hid (K7.out.below hb8)
    clear q0 q1 q2
    clear hb8 B7 K7
    obtain ⟨⟨q0, q1, q2⟩, _⟩ := zcells K8.out
    go_wp2_with fail
    refine (HRF.out _ p1 B8.out).mono ?_
    rintro e w9 ⟨rfl, hb9⟩
    have B9 := Lib.hid (bt B8.out hb9)
    have K9 := Lib.hid (K8.out.below hb9)
    clear q0 q1 q2
    clear hb9 B8 K8
    obtain ⟨⟨q0, q1, q2⟩, _⟩ := zcells K9.out
    go_wp2
    go_ret
    exact ⟨rfl, B9.out⟩
end Go.Proofs.Ythknelpcdoebiaa
