/- The contract of number: what some bytes tell, the lowest first. -/
import Derived.Test.YtilcondnpoinkaaCRead
import Derived.Test.YtilcondnpoinkaaCValue
import Derived.Laws.Bits64b
namespace Go.Proofs.Ytilcondnpoinkaa
open Go.RowKit

set_option maxRecDepth 100000 in
set_option maxHeartbeats 1000000 in
theorem number64_any (s : List UInt8) (w : World) (hs : s.length = 8) :
    Calls Try.prog 21 #[.string ⟨s.toArray⟩] w fun e w' => e = .returned (.int .u64 (val s : Int)) ∧ w = w' := by
  have hz := size_mk s
  rw [hs] at hz
  go_enter Try.func21, Try.ntmps21
  go_wp2_with fail
  go_loop [3, 4, 7] (fun nv jv iv => ∃ k : Nat, k ≤ 8 ∧ iv = .int .i64 k ∧ nv = .int .u64 (val (part s 0 k) : Int)) (fun _ _ i => 8 - (intOf i).toNat)
  case atStart => exact ⟨0, Nat.zero_le _, rfl, by simp [part, val]⟩
  case round =>
    obtain ⟨k, hk, rfl, rfl⟩ := hrel
    by_cases hlt : k < 8
    · have hlt2 : k < s.length := by omega
      have hvp := val_part_succ s 0 k (by omega)
      have hvl := val_part_lt s 0 k (by omega) (by omega)
      have hget := get_mk s k (by rw [hz]; exact hlt)
      obtain ⟨b, hb⟩ : ∃ b, s[k] = b := ⟨_, rfl⟩
      have hb0 : s[0 + k]'(by omega) = b := by rw [← hb]; congr 1; omega
      rw [hb] at hget
      rw [hb0] at hvp
      have hb8 := b.toNat_lt
      obtain ⟨e, he⟩ : ∃ e, e = 8 * k := ⟨_, rfl⟩
      have hmul : IntKind.i64.wrap (8 * (k : Int)) = (e : Int) := by rw [IntKind.wrap_i64]; omega
      have hsh := shl_run b.toNat k e (by omega) (by omega) he
      have hor := bits_or_u64_nat (val (part s 0 k)) (b.toNat * 256 ^ k) hvl (pow_lt_8 _ _ (by omega) (by omega))
      rw [← hvp] at hor
      obtain ⟨X, hX⟩ : ∃ X, b.toNat * 256 ^ k = X := ⟨_, rfl⟩
      rw [hX] at hsh hor
      obtain ⟨V, hV⟩ : ∃ V, val (part s 0 k) = V := ⟨_, rfl⟩
      obtain ⟨V2, hV2⟩ : ∃ V2, val (part s 0 (k + 1)) = V2 := ⟨_, rfl⟩
      rw [hV, hV2] at hor
      rw [hV]
      have HV2 := Lib.hid hV2
      have hwb : IntKind.u64.wrap (b.toNat : Int) = (b.toNat : Int) := by rw [IntKind.wrap_u64]; omega
      clear hvp hvl hb8 he hX hV hV2 hb hb0
      go_wp2
      exact ⟨⟨k + 1, by omega, by go_num, by rw [HV2.out]⟩, by simp [intOf]; omega⟩
    · obtain rfl : k = 8 := by omega
      have hpt : part s 0 8 = s := by unfold part; rw [List.drop_zero, List.take_of_length_le (by omega)]
      rw [hpt]
      go_wp2
      go_ret
      exact ⟨rfl, rfl⟩
end Go.Proofs.Ytilcondnpoinkaa
