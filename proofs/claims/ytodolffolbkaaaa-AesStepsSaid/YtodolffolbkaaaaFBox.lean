/- The contracts of RotateLeft8, boxOf and Box. -/
import Derived.Test.YtodolffolbkaaaaFPow
import Derived.Laws.Bits64b
namespace Go.Proofs.Ytodolffolbkaaaa
open Go.RowKit

theorem neg_mask7 (n : Nat) (h1 : 1 ≤ n) (h2 : n ≤ 7) : bits .and .u64 (IntKind.u64.wrap (-(n : Int))) 7 = ((8 - n : Nat) : Int) := by
  have key : ∀ n : Fin 8, 1 ≤ n.val → bits .and .u64 (IntKind.u64.wrap (-(n.val : Int))) 7 = ((8 - n.val : Nat) : Int) := by decide +kernel
  exact key ⟨n, by omega⟩ h1

set_option maxRecDepth 100000 in
set_option maxHeartbeats 1000000 in
theorem rot_any (x n : Nat) (w : World) (hx : (x : Int) < 256) (h1 : 1 ≤ n) (h2 : n ≤ 7) :
    Calls Try.prog 54 #[.int .u8 (x : Int), .int .i64 (-(n : Int))] w fun e w' => e = .returned (.int .u8 (rot x n : Nat)) ∧ w = w' := by
  have hm := neg_mask7 n h1 h2
  go_enter Try.func54, Try.ntmps54
  go_wp2
  go_ret
  refine ⟨?_, rfl⟩
  have e1 : (x : Int) / 2 ^ (8 - (8 - n)) = ((x / 2 ^ n : Nat) : Int) := by rw [show 8 - (8 - n) = n by omega]; simp
  have e2 : (x : Int) * 2 ^ (8 - n) % 256 = ((x * 2 ^ (8 - n) % 256 : Nat) : Int) := by simp
  have e3 : bits .or .u8 ((x : Int) * 2 ^ (8 - n) % 256) ((x : Int) / 2 ^ (8 - (8 - n))) = ((rot x n : Nat) : Int) := by
    rw [e1, e2, u8_or_nat _ _ (Nat.mod_lt _ (by omega)) (Nat.lt_of_le_of_lt (Nat.div_le_self _ _) (by omega)), Nat.or_comm]
    rfl
  rw [← e3]
  rfl

/-- A box, so many turns of it. -/
def turns (b : Nat) : Nat → Nat
  | 0 => b ^^^ 99
  | k + 1 => turns b k ^^^ rot b (k + 4)
theorem turns_lt {b : Nat} (h : b < 256) (k : Nat) : turns b k < 256 := by
  induction k with
  | zero => exact xor_lt8 h (by omega)
  | succ k ih => exact xor_lt8 ih (rot_lt _ h)

set_option maxRecDepth 100000 in
set_option maxHeartbeats 1000000 in
theorem boxOf_any (b : Nat) (w : World) (hb : (b : Int) < 256) :
    Calls Try.prog 41 #[.int .u8 (b : Int)] w fun e w' => e = .returned (.int .u8 (boxI b : Nat)) ∧ w = w' := by
  have h99 := u8_xor_nat b 99 (by omega) (by omega)
  have HT : Hid (turns b 0 = b ^^^ 99) := Lib.hid rfl
  have HX : Hid (turns b 4 = boxI b) := Lib.hid rfl
  have hlt : ((b ^^^ 99 : Nat) : Int) < 256 := by have := xor_lt8 (a := b) (b := 99) (by omega) (by omega); omega
  obtain ⟨q, hq⟩ : ∃ q, b ^^^ 99 = q := ⟨_, rfl⟩
  rw [hq] at h99 hlt HT
  have h99' : bits .xor .u8 (b : Int) 99 = (q : Int) := h99
  clear hq h99
  go_enter Try.func41, Try.ntmps41
  go_wp2_with fail
  go_loop [3, 4] (fun ov iv => ∃ k o : Nat, k ≤ 4 ∧ ov = .int .u8 (o : Int) ∧ iv = .int .i64 ((k + 4 : Nat) : Int) ∧ (o : Int) < 256 ∧ Hid (turns b k = o)) (fun _ iv => 8 - (intOf iv).toNat)
  case atStart => exact ⟨0, q, by omega, rfl, rfl, hlt, HT⟩
  case round =>
    clear HT h99' hlt
    obtain ⟨k, o, hk, rfl, rfl, ho, HK⟩ := hrel
    by_cases hlt : k < 4
    · have HR := Lib.hid (rot_any b (k + 4) w hb (by omega) (by omega))
      have hrl := rot_lt (b := b) (k + 4) (by omega)
      have hxor := u8_xor_nat o (rot b (k + 4)) (by omega) hrl
      have HS : Hid (turns b (k + 1) = o ^^^ rot b (k + 4)) := Lib.hid (by rw [turns, HK.out])
      have hol := xor_lt8 (a := o) (by omega) hrl
      obtain ⟨r, hr⟩ : ∃ r, rot b (k + 4) = r := ⟨_, rfl⟩
      rw [hr] at hxor HS hol HR
      obtain ⟨o2, ho2⟩ : ∃ r2, o ^^^ r = r2 := ⟨_, rfl⟩
      rw [ho2] at hxor HS hol
      have hol' : (o2 : Int) < 256 := by omega
      clear hr ho2 hrl hol
      obtain ⟨j, hj⟩ : ∃ j, k + 4 = j := ⟨_, rfl⟩
      rw [hj] at HR
      rw [hj]
      have hj1 : 4 ≤ j := by omega
      have hj2 : j < 8 := by omega
      have HJ := Lib.hid hj
      clear hj
      go_wp2_with fail
      refine HR.out.mono ?_
      rintro e w1 ⟨rfl, rfl⟩
      go_wp2_with fail
      exact ⟨⟨k + 1, o2, by omega, rfl, by have := HJ.out; rw [← this]; go_num, hol', HS⟩, by simp [intOf]; omega⟩
    · obtain rfl : k = 4 := by omega
      have HE : Hid (boxI b = o) := Lib.hid (by rw [← HX.out, HK.out])
      go_wp2_with fail
      go_ret
      rw [HE.out]
      exact ⟨rfl, rfl⟩

theorem boxI_lt {b : Nat} (h : b < 256) : boxI b < 256 := turns_lt h 4
end Go.Proofs.Ytodolffolbkaaaa
