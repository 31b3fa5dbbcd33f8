/- The contract of Mul, and that 1 times 1 is 1. -/
import Derived.Test.YtlfghagidajpeaaGTimes
namespace Go.Proofs.Ytlfghagidajpeaa
open Go.RowKit

/-- Two blocks' product, as texts. -/
def mulL (a b : List UInt8) : List UInt8 := nb (gm (bn a) (bn b))
theorem mulL_len (a b : List UInt8) : (mulL a b).length = 16 := nb_len _
set_option maxRecDepth 100000 in
set_option maxHeartbeats 1000000 in
theorem mul_yes (a b : List UInt8) (w : World) (ha : a.length = 16) (hb : b.length = 16) :
    Calls Try.prog 8 #[.string ⟨a.toArray⟩, .string ⟨b.toArray⟩] w fun e w' => e = .returned (.tuple #[.string ⟨(mulL a b).toArray⟩, .int .i64 0]) ∧ Below w.heap.size w w' := by
  have H1 := Lib.hid (fun W => isBlock_any a W)
  have H2 := Lib.hid (fun W => isBlock_any b W)
  rw [ha] at H1
  rw [hb] at H2
  have H3 := Lib.hid (fun W => polynomialOf_any a 16 W ha (Nat.le_refl _))
  have H4 := Lib.hid (fun W => polynomialOf_any b 16 W hb (Nat.le_refl _))
  have H5 := Lib.hid (fun W => times_any (bn a) (bn b) W (bn_lt b))
  have H6 := Lib.hid (fun W => gtold_any (gm (bn a) (bn b)) W)
  have HE : Hid (nb (gm (bn a) (bn b)) = mulL a b) := Lib.hid rfl
  rw [HE.out] at H6
  generalize mulL a b = E at H6 ⊢
  generalize gm (bn a) (bn b) = G at H5 H6
  generalize bn a = A at H3 H5
  generalize bn b = B at H4 H5
  clear HE ha hb
  go_enter Try.func8, Try.ntmps8
  go_wp2_with fail
  refine (H1.out _).mono ?_
  rintro e w' ⟨rfl, rfl⟩
  go_wp2_with fail
  refine (H2.out _).mono ?_
  rintro e w' ⟨rfl, rfl⟩
  go_wp2_with fail
  refine (H3.out _).mono ?_
  rintro e wa ⟨rfl, hba⟩
  go_wp2_with fail
  refine (H4.out _).mono ?_
  rintro e wb ⟨rfl, hbb⟩
  go_wp2_with fail
  refine (H5.out _).mono ?_
  rintro e wc ⟨rfl, hbc⟩
  go_wp2_with fail
  refine (H6.out _).mono ?_
  rintro e wd ⟨rfl, hbd⟩
  go_wp2_with fail
  go_ret2
  exact ⟨rfl, bt (bt (bt hba hbb) hbc) hbd⟩
set_option maxRecDepth 100000 in
set_option maxHeartbeats 1000000 in
theorem mul_no (a b : List UInt8) (w : World) (h : ¬ (a.length = 16 ∧ b.length = 16)) :
    Calls Try.prog 8 #[.string ⟨a.toArray⟩, .string ⟨b.toArray⟩] w fun e w' => e = .returned (.tuple #[.string ⟨#[]⟩, .int .i64 4]) ∧ Below w.heap.size w w' := by
  have H1 := Lib.hid (fun W => isBlock_any a W)
  have H2 := Lib.hid (fun W => isBlock_any b W)
  by_cases ha : a.length = 16
  · have hb : decide (b.length = 16) = false := by simp; intro hb; exact h ⟨ha, hb⟩
    rw [ha] at H1
    rw [hb] at H2
    clear ha hb h
    go_enter Try.func8, Try.ntmps8
    go_wp2_with fail
    refine (H1.out _).mono ?_
    rintro e w' ⟨rfl, rfl⟩
    go_wp2_with fail
    refine (H2.out _).mono ?_
    rintro e w' ⟨rfl, rfl⟩
    go_wp2_with fail
    go_ret2
    exact ⟨rfl, Below.refl _ _⟩
  · have ha' : decide (a.length = 16) = false := by simp [ha]
    rw [ha'] at H1
    clear ha ha' h
    go_enter Try.func8, Try.ntmps8
    go_wp2_with fail
    refine (H1.out _).mono ?_
    rintro e w' ⟨rfl, rfl⟩
    go_wp2_with fail
    go_ret2
    exact ⟨rfl, Below.refl _ _⟩
/-- The block 1. -/
def oneL : List UInt8 := [128, 0, 0, 0, 0, 0, 0, 0, 0, 0, 0, 0, 0, 0, 0, 0]
theorem bn_one : bn oneL = 1 := by decide +kernel
theorem mulL_one (a : List UInt8) (h : a.length = 16) : mulL a oneL = a := by rw [mulL, bn_one, gm_one, nb_bn h]
set_option maxRecDepth 100000 in
set_option maxHeartbeats 1000000 in
theorem alive_any (w : World) : Calls Try.prog 9 #[] w fun e w' => e = .returned (.bool true) ∧ Below w.heap.size w w' := by
  have H : Hid (Calls Try.prog 8 #[.string ⟨#[128, 0, 0, 0, 0, 0, 0, 0, 0, 0, 0, 0, 0, 0, 0, 0]⟩, .string ⟨#[128, 0, 0, 0, 0, 0, 0, 0, 0, 0, 0, 0, 0, 0, 0, 0]⟩] w fun e w' => e = .returned (.tuple #[.string ⟨#[128, 0, 0, 0, 0, 0, 0, 0, 0, 0, 0, 0, 0, 0, 0, 0]⟩, .int .i64 0]) ∧ Below w.heap.size w w') := Lib.hid (by
    have := mul_yes oneL oneL w rfl rfl
    rw [mulL_one oneL rfl] at this
    exact this)
  go_enter Try.func9, Try.ntmps9
  go_wp2_with fail
  refine H.out.mono ?_
  rintro e w' ⟨rfl, hb⟩
  go_wp2
  go_ret
  exact ⟨rfl, hb⟩
end Go.Proofs.Ytlfghagidajpeaa
