/- The contract of the reference's Same (stage 4's), at two rows that are the same. -/
import Derived.Test.YtodolffolbkaaaaARBase
import Derived.BigQuiet
namespace Go.Proofs.Ytodolffolbkaaaa
open Go.RowKit

set_option maxRecDepth 100000 in
set_option maxHeartbeats 2000000 in
theorem rsame_any (A B : Option Addr) (c d n : Nat) (L : List (List UInt8)) (w : World) (hA : SR w A L) (hB : SR w B L) (hl : L.length = n) (hn : n ≤ 65536) :
    Calls Try.prog 12 #[.slice A n c, .slice B n d] w fun e w' => e = .returned (.bool true) ∧ Below w.heap.size w w' := by
  have HA := Lib.hid hA
  have HB := Lib.hid hB
  have HL := Lib.hid hl
  clear hA hB hl
  go_enter Try.func12, Try.ntmps12
  go_wp2_with fail
  go_loopw [13] (fun iv wr => ∃ k : Nat, k ≤ n ∧ iv = .int .i64 k ∧ Below w.heap.size w wr) (fun i _ => n - (intOf i).toNat)
  case atStart => exact ⟨0, Nat.zero_le _, rfl, Below.refl _ _⟩
  case round =>
    obtain ⟨k, hk, rfl, hb⟩ := hrel
    by_cases hlt : k < n
    · obtain ⟨g, off, rfl, c0⟩ := (HA.out.later hb) k (by rw [HL.out]; exact hlt)
      obtain ⟨g', off', rfl, d0⟩ := (HB.out.later hb) k (by rw [HL.out]; exact hlt)
      have i0 : (0 : Int) ≤ (k : Int) := by omega
      have i1 : (k : Int) < (n : Int) := by omega
      generalize L.getD k [] = x at c0 d0
      go_wp2_with fail
      go_quiet (fail)
      go_wp2
      exact ⟨⟨k + 1, by omega, by go_num, bdn' hb _⟩, by simp [intOf]; omega⟩
    · obtain rfl : k = n := by omega
      go_wp2
      go_ret
      exact ⟨rfl, hb⟩

end Go.Proofs.Ytodolffolbkaaaa
