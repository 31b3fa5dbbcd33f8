/- The contracts of Get and Find's outer part. -/
import Derived.Test.YthknelpcdoebiaaZRight
import Derived.Test.YthknelpcdoebiaaZOwn
namespace Go.Proofs.Ythknelpcdoebiaa
open Go.RowKit

abbrev zbox (w : World) (N : Int) (A : Option Addr) (n c F : Nat) : World := w.alloc (.cells (zcs N A n c F) 25)
theorem zbox_below (w : World) (N : Int) (A : Option Addr) (n c F : Nat) : Below w.heap.size w (zbox w N A n c F) := ba (Below.refl _ _) _
theorem zbox_blk (w : World) (N : Int) (A : Option Addr) (n c F : Nat) : Blk (zbox w N A n c F) w.heap.size 25 (zcs N A n c F) := Blk.new w _ _

set_option maxRecDepth 100000 in
set_option maxHeartbeats 2000000 in
theorem get_walk (N : Int) (A : Option Addr) (n c F : Nat) (i : Int) (w : World) (r p t : Bool) (a : Bool) (e : Int)
    (HR : Hid (∀ W, Below w.heap.size w W → Calls Try.prog 9 #[zbv N A n c F] W fun e w' => e = .returned (.bool r) ∧ Below W.heap.size W w'))
    (HP : Hid (∀ W, Below w.heap.size w W → Calls Try.prog 30 #[zbv N A n c F, .int .i64 i] W fun e w' => e = .returned (.bool p) ∧ Below W.heap.size W w'))
    (HT : Hid (∀ W, r = true → p = true → Below w.heap.size w W → Calls Try.prog 33 #[zbv N A n c F, .int .i64 i] W fun e w' => e = .returned (.bool t) ∧ Below W.heap.size W w'))
    (P : (r = false ∧ a = false ∧ e = 1) ∨ (r = true ∧ p = false ∧ a = false ∧ e = 2) ∨ (r = true ∧ p = true ∧ a = t ∧ e = 0)) :
    Calls Try.prog 16 #[zbv N A n c F, .int .i64 i] w fun x w' => x = .returned (.tuple #[.bool a, .int .i64 e]) ∧ Below w.heap.size w w' := by
  have HB := Lib.hid (zbox_below w N A n c F)
  have HK := Lib.hid (zbox_blk w N A n c F)
  rcases P with ⟨rfl, rfl, rfl⟩ | ⟨rfl, rfl, rfl, rfl⟩ | ⟨rfl, rfl, rfl, rfl⟩
  all_goals
    go_enter Try.func16, Try.ntmps16
    go_wp2_with fail
    refine (HR.out _ HB.out).mono ?_
    rintro e1 w1 ⟨rfl, hb1⟩
    have B1 := Lib.hid (bt HB.out hb1)
    have K1 := Lib.hid (HK.out.below hb1)
    clear hb1
    obtain ⟨⟨q0, q1, q2⟩, _⟩ := zcells K1.out
  · go_wp2
    go_ret2
    exact ⟨rfl, B1.out⟩
  · go_wp2_with fail
    refine (HP.out _ B1.out).mono ?_
    rintro e2 w2 ⟨rfl, hb2⟩
    go_wp2
    go_ret2
    exact ⟨rfl, bt B1.out hb2⟩
  · go_wp2_with fail
    refine (HP.out _ B1.out).mono ?_
    rintro e2 w2 ⟨rfl, hb2⟩
    have B2 := Lib.hid (bt B1.out hb2)
    have K2 := Lib.hid (K1.out.below hb2)
    clear hb2 q0 q1 q2
    obtain ⟨⟨q0, q1, q2⟩, _⟩ := zcells K2.out
    go_wp2_with fail
    refine (HT.out _ (by trivial) (by trivial) B2.out).mono ?_
    rintro e3 w3 ⟨rfl, hb3⟩
    go_wp2
    go_ret2
    exact ⟨rfl, bt B2.out hb3⟩

theorem get_bad (N : Int) (A : Option Addr) (n c F : Nat) (L : List Nat) (i : Int) (w : World) (hM : ZM w A n c L F) (hr : zright N L F = false) :
    Calls Try.prog 16 #[zbv N A n c F, .int .i64 i] w fun x w' => x = .returned (.tuple #[.bool false, .int .i64 1]) ∧ Below w.heap.size w w' :=
  get_walk N A n c F i w false _ false _ _ (Lib.hid fun W hb => by have := zright_any N A n c F L W (hM.later hb); rwa [hr] at this) (Lib.hid fun W _ => isPlace_any N A n c F i W) (Lib.hid fun _ h => by cases h) (.inl ⟨rfl, rfl, rfl⟩)
theorem get_range (N : Int) (A : Option Addr) (n c F : Nat) (L : List Nat) (i : Int) (w : World) (hM : ZM w A n c L F) (hr : zright N L F = true) (hi : ¬ (0 ≤ i ∧ i < N)) :
    Calls Try.prog 16 #[zbv N A n c F, .int .i64 i] w fun x w' => x = .returned (.tuple #[.bool false, .int .i64 2]) ∧ Below w.heap.size w w' := by
  have hp : (decide (0 ≤ i) && decide (i < N)) = false := by rw [Bool.and_eq_false_iff]; simp only [decide_eq_false_iff_not]; omega
  exact get_walk N A n c F i w true false false _ _ (Lib.hid fun W hb => by have := zright_any N A n c F L W (hM.later hb); rwa [hr] at this) (Lib.hid fun W _ => by have := isPlace_any N A n c F i W; rwa [hp] at this) (Lib.hid fun _ _ h => by cases h) (.inr (.inl ⟨rfl, rfl, rfl, rfl⟩))
theorem get_yes (k : Nat) (A : Option Addr) (n c F : Nat) (L : List Nat) (i : Nat) (w : World) (hM : ZM w A n c L F) (hr : ZR k L F) (hi : i < k) :
    Calls Try.prog 16 #[zbv (k : Int) A n c F, .int .i64 (i : Int)] w fun x w' => x = .returned (.tuple #[.bool (ztk L i), .int .i64 0]) ∧ Below w.heap.size w w' := by
  have hp : (decide (0 ≤ (i : Int)) && decide ((i : Int) < (k : Int))) = true := by simp; omega
  have h6 := hr.len64
  have hl := hM.len
  exact get_walk k A n c F i w true true _ _ _ (Lib.hid fun W hb => by have := zright_any k A n c F L W (hM.later hb); rwa [zright_mk hr] at this) (Lib.hid fun W _ => by have := isPlace_any k A n c F i W; rwa [hp] at this) (Lib.hid fun W _ _ hb => isTaken_any k A n c F L i W (hM.later hb) (by omega)) (.inr (.inr ⟨rfl, rfl, rfl, rfl⟩))
end Go.Proofs.Ythknelpcdoebiaa
