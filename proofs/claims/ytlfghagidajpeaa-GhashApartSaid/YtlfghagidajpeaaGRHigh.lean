/- The contracts of the reference's high and filled. -/
import Derived.Test.YtlfghagidajpeaaGRMul
import Derived.Test.YtlfghagidajpeaaGBlocks
namespace Go.Proofs.Ytlfghagidajpeaa
open Go.RowKit

theorem ub_drop {L : List UInt8} {m j : Nat} : ub (L.drop m) j = ub L (m + j) := by simp [ub, List.getD]
theorem nb_any (L : List UInt8) {j : Nat} (h : j < 16) : ub (nb (bn L)) j = ub L j := by
  unfold nb
  rw [ub_tab _ h]
  refine u8_bits fun t ht => ?_
  rw [by8_nat, mkN_at ht, bn_bit L (by omega)]
  unfold co
  rw [show (8 * j + 7 - t) / 8 = j by omega, show 7 - (8 * j + 7 - t) % 8 = t by omega]
/-- So many bytes of a number, the highest first. -/
def beL : Nat → Nat → List UInt8
  | 0, _ => []
  | k + 1, n => UInt8.ofNat (n / 256 ^ k % 256) :: beL k n
theorem beL_len (k n : Nat) : (beL k n).length = k := by
  induction k with
  | zero => rfl
  | succ k ih => rw [beL, List.length_cons, ih]
theorem ub_beL (n : Nat) : ∀ k j, j < k → ub (beL k n) j = UInt8.ofNat (n / 256 ^ (k - 1 - j) % 256) := by
  intro k
  induction k with
  | zero => intro j h; omega
  | succ k ih =>
    intro j h
    cases j with
    | zero => rfl
    | succ j =>
      have h1 : ub (beL (k + 1) n) (j + 1) = ub (beL k n) j := rfl
      rw [h1, ih j (by omega)]
      congr 4
      omega
theorem be_of {a b : Nat} (ha : a < B64) (hb : b < B64) : beL 8 a ++ beL 8 b = nb (ofW a b) := by
  refine list_ext (n := 16) (by rw [List.length_append, beL_len, beL_len]) (nb_len _) fun i hi => ?_
  unfold nb
  rw [ub_tab _ hi]
  apply UInt8.toNat_inj.1
  rw [← wi_byte _ hi]
  by_cases h8 : i < 8
  · have e : ub (beL 8 a ++ beL 8 b) i = ub (beL 8 a) i := by simp [ub, List.getD, List.getElem?_append, beL_len, h8]
    rw [e, ub_beL a 8 i h8, UInt8.toNat_ofNat', show wi (ofW a b) (i / 8) = a by unfold wi; rw [if_pos (by omega)]; exact w0_of b ha, show (256 : Nat) = 2 ^ 8 from rfl, ← Nat.pow_mul, show 8 * (8 - 1 - i) = 56 - i % 8 * 8 by omega, Nat.mod_mod]
  · have e : ub (beL 8 a ++ beL 8 b) i = ub (beL 8 b) (i - 8) := by simp [ub, List.getD, List.getElem?_append, beL_len, h8]
    rw [e, ub_beL b 8 (i - 8) (by omega), UInt8.toNat_ofNat', show wi (ofW a b) (i / 8) = b by unfold wi; rw [if_neg (by omega)]; exact w1_of a hb, show (256 : Nat) = 2 ^ 8 from rfl, ← Nat.pow_mul, show 8 * (8 - 1 - (i - 8)) = 56 - i % 8 * 8 by omega, Nat.mod_mod]
theorem join_text (a b : List UInt8) : (⟨a.toArray⟩ : ByteArray) ++ ⟨b.toArray⟩ = ⟨(a ++ b).toArray⟩ := by
  apply ByteArray.ext
  simp

set_option maxRecDepth 100000 in
set_option maxHeartbeats 2000000 in
theorem high_any (n : Nat) (w : World) (hn : n < 65536) :
    Calls Try.prog 27 #[.int .u64 (n : Int)] w fun e w' => e = .returned (.string ⟨(beL 8 n).toArray⟩) ∧ Below w.heap.size w w' := by
  have HJ := Lib.hid join_text
  have HS : Hid (∀ k, beL (k + 1) n = UInt8.ofNat (n / 256 ^ k % 256) :: beL k n) := Lib.hid (fun _ => rfl)
  have H0 : Hid (beL 0 n = []) := Lib.hid rfl
  have HLEN : Hid (∀ k, (beL k n).length = k) := Lib.hid (fun k => beL_len k n)
  generalize hB : (fun k => beL k n) = B
  have hB' : ∀ k, beL k n = B k := fun k => by rw [← hB]
  rw [hB'] at H0
  simp only [hB'] at HS HLEN ⊢
  have HN := Lib.hid hn
  clear hB hB' hn
  go_enter Try.func27, Try.ntmps27
  go_wp2_with fail
  go_loopw [0, 3, 4] (fun nv ov iv wr => ∃ k q : Nat, k ≤ 8 ∧ iv = .int .i64 k ∧ nv = .int .u64 q ∧ ov = .string ⟨(B k).toArray⟩ ∧ Hid (q = n / 256 ^ k) ∧ Below w.heap.size w wr) (fun _ _ iv _ => 8 - (intOf iv).toNat)
  case atStart => exact ⟨0, n, Nat.zero_le _, rfl, rfl, by rw [H0.out], Lib.hid (by simp), Below.refl _ _⟩
  case round =>
    obtain ⟨k, q, hk, rfl, rfl, rfl, HQ, hb⟩ := hrel
    by_cases hlt : k < 8
    · have hkl : (k : Int) < 8 := by omega
      have HT := Lib.hid (HS.out k)
      rw [← HQ.out] at HT
      obtain ⟨y, hy⟩ : ∃ y, UInt8.ofNat (q % 256) = y := ⟨_, rfl⟩
      rw [hy] at HT
      have hyn : y.toNat = q % 256 := by rw [← hy, UInt8.toNat_ofNat']; omega
      have hw8 : IntKind.u8.wrap ((q : Int) % 256) = ((y.toNat : Nat) : Int) := by rw [IntKind.wrap_u8, hyn]; omega
      have h1b := one_byte y wr
      have hjj := HJ.out [y] (B k)
      rw [show [y] ++ B k = B (k + 1) from HT.out.symm] at hjj
      have HQ2 : Hid (q / 256 = n / 256 ^ (k + 1)) := Lib.hid (by rw [HQ.out, Nat.div_div_eq_div_mul, Nat.pow_succ])
      have HB2 := Lib.hid (ba hb (.cells #[uv y] 5))
      have hlen : ¬ 9223372036854775807 < 1 + (B k).length := by rw [HLEN.out k]; omega
      have hqw : IntKind.u64.wrap ((q : Int) / 256) = ((q / 256 : Nat) : Int) := by
        have h1 : q ≤ n := by rw [HQ.out]; exact Nat.div_le_self _ _
        have h2 := HN.out
        rw [IntKind.wrap_u64]; omega
      clear hy hyn
      go_wp2_with fail
      exact ⟨⟨k + 1, q / 256, by omega, by go_num, rfl, rfl, HQ2, HB2.out⟩, by simp [intOf]; omega⟩
    · obtain rfl : k = 8 := by omega
      go_wp2
      go_ret
      exact ⟨rfl, hb⟩
end Go.Proofs.Ytlfghagidajpeaa
