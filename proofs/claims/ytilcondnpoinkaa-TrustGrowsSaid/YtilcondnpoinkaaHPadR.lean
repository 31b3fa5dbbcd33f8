/- The contracts of the reference's high, Pad and Same. -/
import Derived.Test.YtilcondnpoinkaaHRound
namespace Go.Proofs.Ytilcondnpoinkaa
open Go.RowKit

theorem size_of (s : List UInt8) : (⟨s.toArray⟩ : ByteArray).size = s.length := by simp [ByteArray.size]
/-- A number's lowest bytes, the lowest first. -/
def lowB : Nat → Nat → List UInt8
  | _, 0 => []
  | n, k + 1 => UInt8.ofNat (n % 256) :: lowB (n / 256) k
/-- .. and the highest first. -/
def highB (n k : Nat) : List UInt8 := (lowB n k).reverse
theorem lowB_len (n k : Nat) : (lowB n k).length = k := by
  induction k generalizing n with
  | zero => rfl
  | succ k ih => simp [lowB, ih]
theorem highB_len (n k : Nat) : (highB n k).length = k := by simp [highB, lowB_len]
theorem lowB_snoc (n k : Nat) : lowB n (k + 1) = lowB n k ++ [UInt8.ofNat (n / 256 ^ k % 256)] := by
  induction k generalizing n with
  | zero => simp [lowB]
  | succ k ih =>
    rw [lowB, ih (n / 256), lowB]
    simp [Nat.div_div_eq_div_mul, Nat.pow_succ, Nat.mul_comm]
theorem highB_succ (n k : Nat) : highB n (k + 1) = UInt8.ofNat (n / 256 ^ k % 256) :: highB n k := by
  unfold highB
  rw [lowB_snoc]
  simp

theorem one_byte (b : UInt8) (W : World) : (convert 60 9 (.slice (some ⟨W.heap.size, 0, none⟩) 1 1)).run Try.prog (W.alloc (.cells #[.int .u8 (b.toNat : Int)] 5)) = .ok (.string ⟨[b].toArray⟩) (W.alloc (.cells #[.int .u8 (b.toNat : Int)] 5)) :=
  run_convert_bytes_back (P := Try.prog) (W.alloc (.cells #[.int .u8 (b.toNat : Int)] 5)) 60 9 5 ⟨W.heap.size, 0, none⟩ 1 [b] Try.underlying60 Try.underlying5 Try.underlying9 (fun j hj => by
    obtain rfl : j = 0 := by simpa using hj
    simp [Addr.add])

set_option maxRecDepth 100000 in
set_option maxHeartbeats 1000000 in
theorem high_any (n m : Nat) (w : World) (hm : (m : Int) ≤ 1048576) (hn : (n : Int) ≤ 18446744073709551615) :
    Calls Try.prog 43 #[.int .u64 (n : Int), .int .i64 (m : Int)] w fun e w' => e = .returned (.string ⟨(highB n m).toArray⟩) ∧ Below w.heap.size w w' := by
  go_enter Try.func43, Try.ntmps43
  go_wp2
  go_loopw [0, 5, 6] (fun nv out iv wr => ∃ k q : Nat, k ≤ m ∧ iv = .int .i64 k ∧ nv = .int .u64 (q : Int) ∧ (q : Int) ≤ 18446744073709551615 ∧ Hid (q = n / 256 ^ k) ∧ out = .string ⟨(highB n k).toArray⟩ ∧ Below w.heap.size w wr) (fun _ _ i _ => m - (intOf i).toNat)
  case atStart => exact ⟨0, n, Nat.zero_le _, rfl, rfl, hn, Lib.hid (by simp), rfl, Below.refl _ _⟩
  case round =>
    obtain ⟨k, q, hk, rfl, rfl, hq1, HQ, rfl, hb⟩ := hrel
    by_cases hlt : k < m
    · have hL := highB_len n k
      have hS := highB_succ n k
      rw [← HQ.out] at hS
      obtain ⟨b, hbb⟩ : ∃ b, UInt8.ofNat (q % 256) = b := ⟨_, rfl⟩
      have hB : IntKind.u8.wrap ((q : Int) % 256) = (b.toNat : Int) := by rw [← hbb, IntKind.wrap_u8]; simp
      rw [hbb] at hS
      have hcv := one_byte b
      have hadd : ∀ W : World, (Op.stringOp .add ⟨[b].toArray⟩ ⟨(highB n k).toArray⟩).run Try.prog W = .ok (.string ⟨([b] ++ highB n k).toArray⟩) W := fun W => run_string_add_lists (P := Try.prog) W [b] (highB n k) (by simp) (by omega)
      have HS := Lib.hid hS
      clear hS hbb
      go_wp2
      exact ⟨⟨k + 1, q / 256, by omega, by go_num, by go_num, by omega, Lib.hid (by rw [HQ.out, Nat.div_div_eq_div_mul, Nat.pow_succ]), by rw [HS.out], ba hb _⟩, by simp [intOf]; omega⟩
    · obtain rfl : k = m := by omega
      go_wp2
      go_ret
      exact ⟨rfl, hb⟩

/-- How many bytes 0 a text's padding has, so far as it is known. -/
def padZ (n : Nat) : Nat := (119 - n % 64) % 64
/-- A text padded. -/
def padL (s : List UInt8) : List UInt8 := s ++ [128] ++ List.replicate (padZ s.length) 0 ++ highB (8 * s.length) 8
theorem padZ_mod (n : Nat) : (n + 1 + padZ n) % 64 = 56 := by unfold padZ; omega
theorem padZ_first (n k : Nat) (h : k < padZ n) : (n + 1 + k) % 64 ≠ 56 := by unfold padZ at h; omega
theorem padZ_lt (n : Nat) : padZ n < 64 := by unfold padZ; omega

set_option maxRecDepth 100000 in
set_option maxHeartbeats 1000000 in
theorem rpad_any (s : List UInt8) (w : World) (hs : s.length ≤ 1048576) :
    Calls Try.prog 41 #[.string ⟨s.toArray⟩] w fun e w' => e = .returned (.string ⟨(padL s).toArray⟩) ∧ Below w.heap.size w w' := by
  have hz := size_of s
  have hcv : ∀ W : World, (convert 60 9 (.slice (some ⟨W.heap.size, 0, none⟩) 1 1)).run Try.prog (W.alloc (.cells #[.int .u8 128] 5)) = .ok (.string ⟨[128].toArray⟩) (W.alloc (.cells #[.int .u8 128] 5)) := fun W => one_byte 128 W
  have hcz : ∀ W : World, (convert 60 9 (.slice (some ⟨W.heap.size, 0, none⟩) 1 1)).run Try.prog (W.alloc (.cells #[.int .u8 0] 5)) = .ok (.string ⟨[0].toArray⟩) (W.alloc (.cells #[.int .u8 0] 5)) := fun W => one_byte 0 W
  have hadd : ∀ W : World, (Op.stringOp .add ⟨s.toArray⟩ ⟨[128].toArray⟩).run Try.prog W = .ok (.string ⟨(s ++ [128]).toArray⟩) W := fun W => run_string_add_lists (P := Try.prog) W s [128] (by omega) (by simp)
  obtain ⟨N, hN⟩ : ∃ N, s.length = N := ⟨_, rfl⟩
  have hZ1 := padZ_mod N
  have hZ2 := padZ_first N
  have hZ3 := padZ_lt N
  obtain ⟨Z, hZ⟩ : ∃ Z, padZ N = Z := ⟨_, rfl⟩
  rw [hZ] at hZ1 hZ2 hZ3
  have HZ1 := Lib.hid hZ1
  have HZ2 := Lib.hid hZ2
  have HP : Hid (padL s = s ++ [128] ++ List.replicate Z 0 ++ highB (8 * N) 8) := Lib.hid (by unfold padL; rw [hN, hZ])
  rw [hN] at hz hs
  have HN := Lib.hid hN
  clear hN hZ hZ1 hZ2
  go_enter Try.func41, Try.ntmps41
  go_wp2_with fail
  go_loopw [3] (fun ov wr => ∃ k : Nat, k ≤ Z ∧ ov = .string ⟨(s ++ [128] ++ List.replicate k 0).toArray⟩ ∧ Below w.heap.size w wr) (fun o _ => match o with | .string x => 2097152 - x.size | _ => 0)
  case atStart => exact ⟨0, Nat.zero_le _, by simp, ba (Below.refl _ _) _⟩
  case round =>
    obtain ⟨k, hk, rfl, hb⟩ := hrel
    obtain ⟨S, hS⟩ : ∃ S, s ++ [128] ++ List.replicate k 0 = S := ⟨_, rfl⟩
    have hl : S.length = N + 1 + k := by rw [← hS, ← HN.out]; simp; omega
    have hsz := size_of S
    rw [hl] at hsz
    have hS1 : s ++ [128] ++ List.replicate (k + 1) 0 = S ++ [0] := by rw [← hS, List.replicate_succ']; simp
    rw [hS]
    by_cases hlt : k < Z
    · have hn0 : ¬ (((N : Int) + 1 + k) % 64 = 56) := by have := HZ2.out k hlt; omega
      have hne : (((N : Int) + 1 + k) % 64 != 56) = true := by simpa using hn0
      have hadd2 : ∀ W : World, (Op.stringOp .add ⟨S.toArray⟩ ⟨[0].toArray⟩).run Try.prog W = .ok (.string ⟨(S ++ [0]).toArray⟩) W := fun W => run_string_add_lists (P := Try.prog) W S [0] (by omega) (by simp)
      have HS1 := Lib.hid hS1
      have HH := Lib.hid hS
      clear hS1 hS hadd
      clear hn0
      go_wp2
      refine ⟨⟨k + 1, by omega, by rw [HS1.out], ba hb _⟩, ?_⟩
      show 2097152 - (⟨(S ++ [0]).toArray⟩ : ByteArray).size < 2097152 - (⟨S.toArray⟩ : ByteArray).size
      rw [size_of, size_of, List.length_append, hl]
      simp
      omega
    · obtain rfl : k = Z := by omega
      have hn0 : ((N : Int) + 1 + k) % 64 = 56 := by have := HZ1.out; omega
      have hne : (((N : Int) + 1 + k) % 64 != 56) = false := by simp [hn0]
      have HS1 := Lib.hid hS1
      have HH := Lib.hid hS
      clear hS1 hS hadd
      clear hn0
      go_wp2_with fail
      refine (high_any (8 * N) 8 _ (by omega) (by omega)).mono ?_
      rintro e w1 ⟨rfl, hb1⟩
      have hHl := highB_len (8 * N) 8
      have hadd3 : ∀ W : World, (Op.stringOp .add ⟨S.toArray⟩ ⟨(highB (8 * N) 8).toArray⟩).run Try.prog W = .ok (.string ⟨(S ++ highB (8 * N) 8).toArray⟩) W := fun W => run_string_add_lists (P := Try.prog) W S _ (by omega) (by omega)
      go_wp2
      go_ret
      rw [HP.out, HH.out]
      exact ⟨rfl, bt hb hb1⟩
end Go.Proofs.Ytilcondnpoinkaa
