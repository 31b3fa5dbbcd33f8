/- The contract of the code's word. -/
import Derived.Test.YtilcondnpoinkaaHRot
import Derived.Test.YtilcondnpoinkaaHPadR
namespace Go.Proofs.Ytilcondnpoinkaa
open Go.RowKit

theorem or4 (a b c d : Nat) (hb : b < 256) (hc : c < 256) (hd : d < 256) : (((a * 16777216) ||| (b * 65536)) ||| (c * 256)) ||| d = a * 16777216 + b * 65536 + c * 256 + d := by
  rw [nat_join 24 (a * 16777216) (b * 65536) (by omega) (by omega), nat_join 16 (a * 16777216 + b * 65536) (c * 256) (by omega) (by omega), nat_join 8 (a * 16777216 + b * 65536 + c * 256) d (by omega) (by omega)]

theorem byte_at (l : List UInt8) (k : Nat) (h : k < l.length) : (⟨l.toArray⟩ : ByteArray)[k]'(by simpa [ByteArray.size] using h) = l.getD k 0 := by
  have : (⟨l.toArray⟩ : ByteArray)[k]'(by simpa [ByteArray.size] using h) = l[k] := rfl
  rw [this]; simp [List.getD, h]

theorem or4_int (a b c d : Nat) (ha : a < 256) (hb : b < 256) (hc : c < 256) (hd : d < 256) :
    bits .or .u32 (bits .or .u32 (bits .or .u32 ((a : Int) * 16777216) ((b : Int) * 65536)) ((c : Int) * 256)) (d : Int) = ((a * 16777216 + b * 65536 + c * 256 + d : Nat) : Int) := by
  have h1 : (a * 16777216) ||| (b * 65536) < 2 ^ 32 := Nat.or_lt_two_pow (by omega) (by omega)
  have h2 : ((a * 16777216) ||| (b * 65536)) ||| (c * 256) < 2 ^ 32 := Nat.or_lt_two_pow h1 (by omega)
  rw [show (a : Int) * 16777216 = ((a * 16777216 : Nat) : Int) by simp, show (b : Int) * 65536 = ((b * 65536 : Nat) : Int) by simp, show (c : Int) * 256 = ((c * 256 : Nat) : Int) by simp]
  rw [u32_or_nat _ _ (by omega) (by omega), u32_or_nat _ _ h1 (by omega), u32_or_nat _ _ h2 (by omega), or4 a b c d hb hc hd]

theorem index_is (S : ByteArray) (i : Nat) (k : Int) (b : UInt8) (hk : (i : Int) = k) (h : S[i]? = some b) (W : World) : (Instr.index 9 (.string S) (.int .i64 k)).run Try.prog W = .ok (.int .u8 (b.toNat : Int)) W := by
  subst hk
  have hlt : i < S.size := by
    rcases Nat.lt_or_ge i S.size with h' | h'
    · exact h'
    · rw [getElem?_neg _ _ (by omega)] at h; cases h
  have hb : S[i] = b := by rw [getElem?_pos S i hlt] at h; exact Option.some.inj h
  rw [run_index_string (h := Try.underlying9), dif_pos ⟨by omega, by omega⟩]
  simp [hb]

set_option maxRecDepth 100000 in
set_option maxHeartbeats 1000000 in
theorem wordS_any (S : ByteArray) (hS : 4 ≤ S.size) (w : World) :
    Calls Try.prog 76 #[.string S] w fun e w' => e = .returned (.int .u32 ((S[0].toNat * 16777216 + S[1].toNat * 65536 + S[2].toNat * 256 + S[3].toNat : Nat) : Int)) ∧ ∃ q, w' = w.drewN q := by
  have i0 := index_is S 0 0 S[0] rfl (by simp)
  have i1 := index_is S 1 1 S[1] rfl (by simp)
  have i2 := index_is S 2 2 S[2] rfl (by simp)
  have i3 := index_is S 3 3 S[3] rfl (by simp)
  have u0 := S[0].toNat_lt
  have u1 := S[1].toNat_lt
  have u2 := S[2].toNat_lt
  have u3 := S[3].toNat_lt
  have hO := or4_int _ _ _ _ u0 u1 u2 u3
  obtain ⟨X, hX⟩ : ∃ X, S[0].toNat * 16777216 + S[1].toNat * 65536 + S[2].toNat * 256 + S[3].toNat = X := ⟨_, rfl⟩
  rw [hX] at hO ⊢
  generalize S[0].toNat = x0 at i0 u0 hO
  generalize S[1].toNat = x1 at i1 u1 hO
  generalize S[2].toNat = x2 at i2 u2 hO
  generalize S[3].toNat = x3 at i3 u3 hO
  have HO := Lib.hid hO
  clear hX hO
  have v0 : IntKind.u32.wrap ((x0 : Int) * 16777216) = (x0 : Int) * 16777216 := by rw [IntKind.wrap_u32]; omega
  have v1 : IntKind.u32.wrap ((x1 : Int) * 65536) = (x1 : Int) * 65536 := by rw [IntKind.wrap_u32]; omega
  have v2 : IntKind.u32.wrap ((x2 : Int) * 256) = (x2 : Int) * 256 := by rw [IntKind.wrap_u32]; omega
  go_enter Try.func76, Try.ntmps76
  go_wp2_with fail
  go_quiet (fail)
  go_wp2
  go_ret
  refine ⟨?_, _, rfl⟩
  rw [← HO.out]
  rfl
end Go.Proofs.Ytilcondnpoinkaa
