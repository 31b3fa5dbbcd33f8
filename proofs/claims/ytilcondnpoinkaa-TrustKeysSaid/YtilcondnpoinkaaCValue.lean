/- The contract of the reference's Value. -/
import Derived.Test.YtilcondnpoinkaaCRef
namespace Go.Proofs.Ytilcondnpoinkaa
open Go.RowKit

theorem val_drop (s : List UInt8) (j : Nat) (h : j < s.length) : val (s.drop j) = s[j].toNat + 256 * val (s.drop (j + 1)) := by
  rw [List.drop_eq_getElem_cons h, val]
theorem val_drop_le (s : List UInt8) (j : Nat) (hs : s.length ≤ 8) (h : 1 ≤ j) : val (s.drop j) ≤ 72057594037927935 := by
  have h1 := val_lt (s.drop j)
  rw [List.length_drop] at h1
  have : 256 ^ (s.length - j) ≤ 256 ^ 7 := Nat.pow_le_pow_right (by omega) (by omega)
  omega

set_option maxRecDepth 100000 in
set_option maxHeartbeats 1000000 in
theorem value_any (s : List UInt8) (w : World) (hs : s.length ≤ 8) :
    Calls Try.prog 22 #[.string ⟨s.toArray⟩] w fun e w' => e = .returned (.int .u64 (val s : Int)) ∧ w = w' := by
  have hz := size_mk s
  go_enter Try.func22, Try.ntmps22
  go_wp2_with fail
  go_loop [3, 4] (fun ov iv => ∃ j : Nat, j ≤ s.length ∧ iv = .int .i64 ((j : Int) - 1) ∧ ov = .int .u64 (val (s.drop j) : Int)) (fun _ i => (intOf i + 1).toNat)
  case atStart => exact ⟨s.length, Nat.le_refl _, rfl, by simp [val]⟩
  case round =>
    obtain ⟨j, hj, rfl, rfl⟩ := hrel
    cases j with
    | zero =>
      rw [List.drop_zero]
      go_wp2
      go_ret
      exact ⟨rfl, rfl⟩
    | succ j =>
      have hlt : j < s.length := by omega
      have hget := get_mk s j (by rw [hz]; exact hlt)
      have HV := Lib.hid (val_drop s j hlt)
      have hle := val_drop_le s (j + 1) hs (by omega)
      obtain ⟨b, hb⟩ : ∃ b, s[j] = b := ⟨_, rfl⟩
      rw [hb] at hget HV
      have hb8 := b.toNat_lt
      obtain ⟨V, hV⟩ : ∃ V, val (s.drop (j + 1)) = V := ⟨_, rfl⟩
      rw [hV] at HV hle ⊢
      have ej : ((j + 1 : Nat) : Int) - 1 = (j : Int) := by omega
      rw [ej]
      clear hb hV ej
      go_wp2
      exact ⟨⟨j, by omega, rfl, by rw [HV.out]; go_num⟩, by simp [intOf]⟩
end Go.Proofs.Ytilcondnpoinkaa
