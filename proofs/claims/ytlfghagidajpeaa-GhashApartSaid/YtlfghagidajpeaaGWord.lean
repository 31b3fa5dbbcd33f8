/- The contracts of isBlock, shiftOf, allOf, raised and plus. -/
import Derived.Test.YtlfghagidajpeaaGBits
namespace Go.Proofs.Ytlfghagidajpeaa
open Go.RowKit

/-- A word, and a polynomial, in memory. -/
abbrev qv (n : Nat) : Value := .int .u64 (n : Int)
abbrev Pol (N : Nat) : Array Value := #[qv (w0 N), qv (w1 N)]

set_option maxRecDepth 100000 in
set_option maxHeartbeats 1000000 in
theorem isBlock_any (s : List UInt8) (w : World) :
    Calls Try.prog 17 #[.string ⟨s.toArray⟩] w fun e w' => e = .returned (.bool (decide (s.length = 16))) ∧ w = w' := by
  have hz := size_of s
  by_cases h : s.length = 16
  · rw [h] at hz
    go_enter Try.func17, Try.ntmps17
    go_wp2
    go_ret
    simp [h]
  · have h1 : ((s.length : Int) == 16) = false := by simp; omega
    have h2 : (s.length == 16) = false := by simp; omega
    go_enter Try.func17, Try.ntmps17
    go_wp2
    go_ret
    simp [h]

set_option maxRecDepth 100000 in
set_option maxHeartbeats 1000000 in
theorem shiftOf_any (i : Nat) (w : World) (hi : i < 16) :
    Calls Try.prog 29 #[.int .i64 (i : Int)] w fun e w' => e = .returned (.int .i64 ((56 - i % 8 * 8 : Nat) : Int)) ∧ w = w' := by
  go_enter Try.func29, Try.ntmps29
  go_wp2
  go_ret
  refine ⟨?_, rfl⟩
  go_num

set_option maxRecDepth 100000 in
set_option maxHeartbeats 1000000 in
theorem allOf_none (w : World) : Calls Try.prog 30 #[.int .u64 0] w fun e w' => e = .returned (.int .u64 0) ∧ w = w' := by
  go_enter Try.func30, Try.ntmps30
  go_wp2
  go_ret
  exact ⟨rfl, rfl⟩
set_option maxRecDepth 100000 in
set_option maxHeartbeats 1000000 in
theorem allOf_one (w : World) : Calls Try.prog 30 #[.int .u64 1] w fun e w' => e = .returned (.int .u64 18446744073709551615) ∧ w = w' := by
  go_enter Try.func30, Try.ntmps30
  go_wp2
  go_ret
  exact ⟨rfl, rfl⟩
/-- One bit's word. -/
def onb (b : Bool) : Nat := if b then 1 else 0
theorem allOf_any (b : Bool) (w : World) : Calls Try.prog 30 #[qv (onb b)] w fun e w' => e = .returned (qv (msk b)) ∧ w = w' := by
  cases b
  · exact allOf_none w
  · exact allOf_one w

set_option maxRecDepth 100000 in
set_option maxHeartbeats 1000000 in
theorem raised_any (A : Nat) (w : World) :
    Calls Try.prog 31 #[qv (w0 A), qv (w1 A)] w fun e w' => e = .returned (.tuple #[qv (w0 (gd A)), qv (w1 (gd A))]) ∧ w = w' := by
  have a0 := w0_lt A
  have a1 := w1_lt A
  have h1 : bits .and .u64 ((w1 A : Nat) : Int) 1 = ((onb ((w1 A).testBit 0) : Nat) : Int) := by
    have := u64_and_nat (w1 A) 1 a1 (by decide)
    rw [Nat.and_one_is_mod] at this
    rw [show ((1 : Nat) : Int) = 1 from rfl] at this
    rw [this, Nat.testBit_zero]
    have h2 := Nat.mod_two_eq_zero_or_one (w1 A)
    rcases h2 with h2 | h2 <;> rw [h2] <;> rfl
  have r0 := raised0 A
  have r1 := raised1 A
  obtain ⟨b, hb⟩ : ∃ b, (w1 A).testBit 0 = b := ⟨_, rfl⟩
  rw [hb] at h1 r0
  have h2 : bits .and .u64 (16212958658533785600 : Int) ((msk b : Nat) : Int) = ((sel b 16212958658533785600 : Nat) : Int) := by
    have := u64_and_nat 16212958658533785600 (msk b) (by decide) (sel_lt (by decide) (by decide))
    rw [and_msk b (by decide)] at this
    exact this
  have h3 : bits .xor .u64 (((w0 A : Nat) : Int) / 2) ((sel b 16212958658533785600 : Nat) : Int) = ((w0 (gd A) : Nat) : Int) := by
    have := u64_xor_nat (w0 A / 2) (sel b 16212958658533785600) (by have : w0 A < 18446744073709551616 := a0; omega) (sel_lt (by decide) (by decide))
    rw [r0] at this
    rw [← this]
    rfl
  have h4 : bits .or .u64 (IntKind.u64.wrap (((w0 A : Nat) : Int) * 9223372036854775808)) (((w1 A : Nat) : Int) / 2) = ((w1 (gd A) : Nat) : Int) := by
    rw [IntKind.wrap_u64]
    have := u64_or_nat (w0 A * 2 ^ 63 % 18446744073709551616) (w1 A / 2) (Nat.mod_lt _ (by decide)) (by have : w1 A < 18446744073709551616 := a1; omega)
    rw [r1] at this
    rw [← this]
    rfl
  have HA := Lib.hid (fun W => allOf_any b W)
  clear a0 a1 r0 r1 hb
  generalize w0 A = x at h3 h4 ⊢
  generalize w1 A = y at h1 h4 ⊢
  generalize w0 (gd A) = x' at h3 ⊢
  generalize w1 (gd A) = y' at h4 ⊢
  generalize onb b = c at h1 HA
  generalize sel b 16212958658533785600 = d at h2 h3
  generalize msk b = m at h2 HA
  go_enter Try.func31, Try.ntmps31
  go_wp2_with fail
  refine (HA.out _).mono ?_
  rintro e w1 ⟨rfl, rfl⟩
  go_wp2_with fail
  go_ret2
  exact ⟨rfl, rfl⟩

theorem plen (N : Nat) : (Try.prog.info? 40).map (·.size) = some (Pol N).size := by kernel_rfl
set_option maxRecDepth 100000 in
set_option maxHeartbeats 1000000 in
theorem plus_any (A B : Nat) (w : World) :
    Calls Try.prog 25 #[.agg (Pol A), .agg (Pol B)] w fun e w' => e = .returned (.agg (Pol (A ^^^ B))) ∧ Below w.heap.size w w' := by
  have h1 := u64_xor_nat (w0 A) (w0 B) (w0_lt A) (w0_lt B)
  have h2 := u64_xor_nat (w1 A) (w1 B) (w1_lt A) (w1_lt B)
  rw [← w0_xor] at h1
  rw [← w1_xor] at h2
  have HL := Lib.hid (plen (A ^^^ B))
  unfold Pol at HL ⊢
  generalize w0 (A ^^^ B) = x at h1 HL ⊢
  generalize w1 (A ^^^ B) = y at h2 HL ⊢
  generalize w0 A = a at h1 ⊢
  generalize w1 A = b at h2 ⊢
  generalize w0 B = c at h1 ⊢
  generalize w1 B = d at h2 ⊢
  go_enter Try.func25, Try.ntmps25
  go_wp2
  refine bodyPost_ret (v := .agg #[qv x, qv y]) (results_cell_row rfl _ _ _ _ _ _ _ rfl (Blk.newAt (by simp) _ _) Try.underlying40 rfl HL.out) rfl ?_
  exact ⟨rfl, ba (ba (ba (Below.refl _ _) _) _) _⟩
end Go.Proofs.Ytlfghagidajpeaa
