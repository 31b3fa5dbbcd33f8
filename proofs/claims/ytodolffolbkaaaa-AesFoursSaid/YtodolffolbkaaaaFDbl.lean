/- The contract of double. -/
import Derived.Test.YtodolffolbkaaaaMem
import Derived.Test.YtodolffolbkaaaaFRefM
import Derived.Outline
import Derived.Laws.BitsAllLaws
namespace Go.Proofs.Ytodolffolbkaaaa
open Go.RowKit

theorem ret_u8 {a b : Nat} (h : a = b) : Ending.returned (.int .u8 (a : Int)) = .returned (.int .u8 (b : Int)) := by rw [h]
theorem dbl_lo {a : Nat} (h : a < 128) : dbl a = a * 2 := by
  have key : ∀ a, a < 128 → dbl a = a * 2 := by decide +kernel
  exact key a h
theorem dbl_hi {a : Nat} (h : 128 ≤ a) (h2 : a < 256) : dbl a = ((a - 128) * 2) ^^^ 27 := by
  have key : ∀ a, a < 128 → dbl (a + 128) = (a * 2) ^^^ 27 := by decide +kernel
  have := key (a - 128) (by omega)
  rwa [Nat.sub_add_cancel h] at this
set_option maxRecDepth 100000 in
set_option maxHeartbeats 1000000 in
theorem dbl_any (a : Nat) (w : World) (ha : (a : Int) < 256) :
    Calls Try.prog 56 #[.int .u8 (a : Int)] w fun e w' => e = .returned (.int .u8 (dbl a : Nat)) ∧ w = w' := by
  by_cases h : a < 128
  · have h1 : ((a : Int) / 128 == 0) = true := by simp; omega
    have h2 : ((a : Int) / 128 != 0) = false := by simp; omega
    have H := Lib.hid (dbl_lo h)
    have h3 : (a : Int) < 128 := by omega
    clear h
    go_enter Try.func56, Try.ntmps56
    go_wp2
    go_ret
    rw [H.out]
    exact ⟨by simp, rfl⟩
  · have h1 : ((a : Int) / 128 == 0) = false := by simp; omega
    have h2 : ((a : Int) / 128 != 0) = true := by simp; omega
    have H : Hid (((dbl a : Nat) : Int) = bits .xor .u8 ((a : Int) * 2 % 256) 27) := Lib.hid (by
      rw [dbl_hi (by omega) (by omega), show ((a : Int) * 2 % 256) = (((a - 128) * 2 : Nat) : Int) by omega]
      exact (u8_xor_nat ((a - 128) * 2) 27 (by omega) (by omega)).symm)
    have h3 : (128 : Int) ≤ (a : Int) := by omega
    clear h
    go_enter Try.func56, Try.ntmps56
    go_wp2
    go_ret
    rw [H.out]
    exact ⟨rfl, rfl⟩
end Go.Proofs.Ytodolffolbkaaaa
