/- Texts of this seat, one behind the other: HPadR, HSumR, MMath, HLaw, HRot, HFac. -/
import Derived.Lib.SlBytesRow
import Derived.RangeFuncBox
import Derived.RangeFuncNested
import Derived.RangeFuncBound
import Derived.RangeFuncCalls
import Derived.RangeFuncLeaves
import Derived.Shelf.Abstract
import Derived.Shelf.RegionOpen
import Derived.OwnWalkIn
import Derived.TacticsInMore
import Derived.LoopNIn
import Derived.LoopIn
import Derived.Maps.AppendAt
import Derived.Laws.Bits64b
import Derived.Test.YtegojdblaanclaaDoorQ01
import Derived.Test.YtegojdblaanclaaDoorQ04
/- The contracts of the reference's high, Pad and Same. -/
namespace Go.Proofs.YtegojdblaanclaaDoor
open Go.RowKit

/-- A number's lowest bytes, the lowest first. -/
def lowB : Nat → Nat → List UInt8
  | _, 0 => []
  | n, k + 1 => UInt8.ofNat (n % 256) :: lowB (n / 256) k
/-- .. and the highest first. -/
def highB (n k : Nat) : List UInt8 := (lowB n k).reverse
theorem lowB_len (n k : Nat) : (lowB n k).length = k := by
  induction k generalizing n with
  | zero => rfl
  | succ k ih => simp [lowB, ih]
theorem highB_len (n k : Nat) : (highB n k).length = k := by simp [highB, lowB_len]
theorem lowB_snoc (n k : Nat) : lowB n (k + 1) = lowB n k ++ [UInt8.ofNat (n / 256 ^ k % 256)] := by
  induction k generalizing n with
  | zero => simp [lowB]
  | succ k ih =>
    rw [lowB, ih (n / 256), lowB]
    simp [Nat.div_div_eq_div_mul, Nat.pow_succ, Nat.mul_comm]
theorem highB_succ (n k : Nat) : highB n (k + 1) = UInt8.ofNat (n / 256 ^ k % 256) :: highB n k := by
  unfold highB
  rw [lowB_snoc]
  simp

set_option maxRecDepth 100000 in
set_option maxHeartbeats 1000000 in
theorem hhigh_any (n m : Nat) (w : World) (hm : (m : Int) ≤ 1048576) (hn : (n : Int) ≤ 18446744073709551615) :
    Calls Tryd.prog 66 #[.int .u64 (n : Int), .int .i64 (m : Int)] w fun e w' => e = .returned (.string ⟨(highB n m).toArray⟩) ∧ Below w.heap.size w w' := by
  go_enter Tryd.func66, Tryd.ntmps66
  go_wp2
  go_loopw [0, 5, 6] (fun nv out iv wr => ∃ k q : Nat, k ≤ m ∧ iv = .int .i64 k ∧ nv = .int .u64 (q : Int) ∧ (q : Int) ≤ 18446744073709551615 ∧ Hid (q = n / 256 ^ k) ∧ out = .string ⟨(highB n k).toArray⟩ ∧ Below w.heap.size w wr) (fun _ _ i _ => m - (intOf i).toNat)
  case atStart => exact ⟨0, n, Nat.zero_le _, rfl, rfl, hn, Lib.hid (by simp), rfl, Below.refl _ _⟩
  case round =>
    obtain ⟨k, q, hk, rfl, rfl, hq1, HQ, rfl, hb⟩ := hrel
    by_cases hlt : k < m
    · have hL := highB_len n k
      have hS := highB_succ n k
      rw [← HQ.out] at hS
      obtain ⟨b, hbb⟩ : ∃ b, UInt8.ofNat (q % 256) = b := ⟨_, rfl⟩
      have hB : IntKind.u8.wrap ((q : Int) % 256) = (b.toNat : Int) := by rw [← hbb, IntKind.wrap_u8]; simp
      rw [hbb] at hS
      have hcv := one_byte b
      have hadd : ∀ W : World, (Op.stringOp .add ⟨[b].toArray⟩ ⟨(highB n k).toArray⟩).run Tryd.prog W = .ok (.string ⟨([b] ++ highB n k).toArray⟩) W := fun W => run_string_add_lists (P := Tryd.prog) W [b] (highB n k) (by simp) (by omega)
      have HS := Lib.hid hS
      clear hS hbb
      go_wp2
      exact ⟨⟨k + 1, q / 256, by omega, by go_num, by go_num, by omega, Lib.hid (by rw [HQ.out, Nat.div_div_eq_div_mul, Nat.pow_succ]), by rw [HS.out], ba hb _⟩, by simp [intOf]; omega⟩
    · obtain rfl : k = m := by omega
      go_wp2
      go_ret
      exact ⟨rfl, hb⟩

/-- How many bytes 0 a text's padding has, so far as it is known. -/
def padZ (n : Nat) : Nat := (119 - n % 64) % 64
/-- A text padded. -/
def padL (s : List UInt8) : List UInt8 := s ++ [128] ++ List.replicate (padZ s.length) 0 ++ highB (8 * s.length) 8
theorem padZ_mod (n : Nat) : (n + 1 + padZ n) % 64 = 56 := by unfold padZ; omega
theorem padZ_first (n k : Nat) (h : k < padZ n) : (n + 1 + k) % 64 ≠ 56 := by unfold padZ at h; omega
theorem padZ_lt (n : Nat) : padZ n < 64 := by unfold padZ; omega

set_option maxRecDepth 100000 in
set_option maxHeartbeats 1000000 in
theorem rpad_any (s : List UInt8) (w : World) (hs : s.length ≤ 1048576) :
    Calls Tryd.prog 64 #[.string ⟨s.toArray⟩] w fun e w' => e = .returned (.string ⟨(padL s).toArray⟩) ∧ Below w.heap.size w w' := by
  have hz := size_of s
  have hcv : ∀ W : World, (convert 73 9 (.slice (some ⟨W.heap.size, 0, none⟩) 1 1)).run Tryd.prog (W.alloc (.cells #[.int .u8 128] 5)) = .ok (.string ⟨[128].toArray⟩) (W.alloc (.cells #[.int .u8 128] 5)) := fun W => one_byte 128 W
  have hcz : ∀ W : World, (convert 73 9 (.slice (some ⟨W.heap.size, 0, none⟩) 1 1)).run Tryd.prog (W.alloc (.cells #[.int .u8 0] 5)) = .ok (.string ⟨[0].toArray⟩) (W.alloc (.cells #[.int .u8 0] 5)) := fun W => one_byte 0 W
  have hadd : ∀ W : World, (Op.stringOp .add ⟨s.toArray⟩ ⟨[128].toArray⟩).run Tryd.prog W = .ok (.string ⟨(s ++ [128]).toArray⟩) W := fun W => run_string_add_lists (P := Tryd.prog) W s [128] (by omega) (by simp)
  obtain ⟨N, hN⟩ : ∃ N, s.length = N := ⟨_, rfl⟩
  have hZ1 := padZ_mod N
  have hZ2 := padZ_first N
  have hZ3 := padZ_lt N
  obtain ⟨Z, hZ⟩ : ∃ Z, padZ N = Z := ⟨_, rfl⟩
  rw [hZ] at hZ1 hZ2 hZ3
  have HZ1 := Lib.hid hZ1
  have HZ2 := Lib.hid hZ2
  have HP : Hid (padL s = s ++ [128] ++ List.replicate Z 0 ++ highB (8 * N) 8) := Lib.hid (by unfold padL; rw [hN, hZ])
  rw [hN] at hz hs
  have HN := Lib.hid hN
  clear hN hZ hZ1 hZ2
  go_enter Tryd.func64, Tryd.ntmps64
  go_wp2_with fail
  go_loopw [3] (fun ov wr => ∃ k : Nat, k ≤ Z ∧ ov = .string ⟨(s ++ [128] ++ List.replicate k 0).toArray⟩ ∧ Below w.heap.size w wr) (fun o _ => match o with | .string x => 2097152 - x.size | _ => 0)
  case atStart => exact ⟨0, Nat.zero_le _, by simp, ba (Below.refl _ _) _⟩
  case round =>
    obtain ⟨k, hk, rfl, hb⟩ := hrel
    obtain ⟨S, hS⟩ : ∃ S, s ++ [128] ++ List.replicate k 0 = S := ⟨_, rfl⟩
    have hl : S.length = N + 1 + k := by rw [← hS, ← HN.out]; simp; omega
    have hsz := size_of S
    rw [hl] at hsz
    have hS1 : s ++ [128] ++ List.replicate (k + 1) 0 = S ++ [0] := by rw [← hS, List.replicate_succ']; simp
    rw [hS]
    by_cases hlt : k < Z
    · have hn0 : ¬ (((N : Int) + 1 + k) % 64 = 56) := by have := HZ2.out k hlt; omega
      have hne : (((N : Int) + 1 + k) % 64 != 56) = true := by simpa using hn0
      have hadd2 : ∀ W : World, (Op.stringOp .add ⟨S.toArray⟩ ⟨[0].toArray⟩).run Tryd.prog W = .ok (.string ⟨(S ++ [0]).toArray⟩) W := fun W => run_string_add_lists (P := Tryd.prog) W S [0] (by omega) (by simp)
      have HS1 := Lib.hid hS1
      have HH := Lib.hid hS
      clear hS1 hS hadd
      clear hn0
      go_wp2
      refine ⟨⟨k + 1, by omega, by rw [HS1.out], ba hb _⟩, ?_⟩
      show 2097152 - (⟨(S ++ [0]).toArray⟩ : ByteArray).size < 2097152 - (⟨S.toArray⟩ : ByteArray).size
      rw [size_of, size_of, List.length_append, hl]
      simp
      omega
    · obtain rfl : k = Z := by omega
      have hn0 : ((N : Int) + 1 + k) % 64 = 56 := by have := HZ1.out; omega
      have hne : (((N : Int) + 1 + k) % 64 != 56) = false := by simp [hn0]
      have HS1 := Lib.hid hS1
      have HH := Lib.hid hS
      clear hS1 hS hadd
      clear hn0
      go_wp2_with fail
      refine (hhigh_any (8 * N) 8 _ (by omega) (by omega)).mono ?_
      rintro e w1 ⟨rfl, hb1⟩
      have hHl := highB_len (8 * N) 8
      have hadd3 : ∀ W : World, (Op.stringOp .add ⟨S.toArray⟩ ⟨(highB (8 * N) 8).toArray⟩).run Tryd.prog W = .ok (.string ⟨(S ++ highB (8 * N) 8).toArray⟩) W := fun W => run_string_add_lists (P := Tryd.prog) W S _ (by omega) (by omega)
      go_wp2
      go_ret
      rw [HP.out, HH.out]
      exact ⟨rfl, bt hb hb1⟩
end Go.Proofs.YtegojdblaanclaaDoor
/- The contract of the reference's Sum, if words is as it should be. -/
namespace Go.Proofs.YtegojdblaanclaaDoor
open Go.RowKit

/-- A text's block, by its place. -/
def blockAt (P : List UInt8) (k : Nat) : List UInt8 := (P.drop (64 * k)).take 64
/-- The first state mixed with so many blocks. -/
def hsumN (P : List UInt8) : Nat → List Nat
  | 0 => startL
  | k + 1 => mixL (hsumN P k) (blockAt P k)
/-- Words' bytes. -/
def bytesW (L : List Nat) : List UInt8 := L.flatMap fun x => highB x 4
/-- A text's sum. -/
def hsumL (s : List UInt8) : List UInt8 := bytesW (hsumN (padL s) ((padL s).length / 64))
theorem sumN_len (P : List UInt8) (k : Nat) : (hsumN P k).length = 8 := by
  cases k with
  | zero => rfl
  | succ k => exact mixL_len _ _
theorem start_lt : ∀ x ∈ startL, x < 4294967296 := by decide
theorem hsumN_lt (P : List UInt8) (k : Nat) : ∀ x ∈ hsumN P k, x < 4294967296 := by
  cases k with
  | zero => exact start_lt
  | succ k => exact mixL_lt _ _
theorem padL_len (s : List UInt8) : (padL s).length = s.length + 9 + padZ s.length := by
  simp [padL, highB_len]; omega
theorem padL_mod (s : List UInt8) : (padL s).length % 64 = 0 := by
  rw [padL_len]
  have := padZ_mod s.length
  omega
theorem bytesW_len (L : List Nat) : (bytesW L).length = 4 * L.length := by
  induction L with
  | nil => rfl
  | cons x L ih =>
    have e : bytesW (x :: L) = highB x 4 ++ bytesW L := by simp [bytesW]
    rw [e, List.length_append, ih, highB_len]; simp; omega
theorem bytesW_take (L : List Nat) (k : Nat) (h : k < L.length) : bytesW (L.take (k + 1)) = bytesW (L.take k) ++ highB (wn L k) 4 := by
  rw [← List.take_append_getElem h, wn_get L k h]
  unfold bytesW
  rw [List.flatMap_append]
  simp only [List.flatMap_cons, List.flatMap_nil, List.append_nil]
theorem extract_block (P : List UInt8) (k : Nat) : (⟨P.toArray⟩ : ByteArray).extract (64 * k) (64 * k + 64) = ⟨(blockAt P k).toArray⟩ := by
  apply ByteArray.ext
  apply Array.toList_inj.1
  rw [Lib.extract_data]
  simp [blockAt]
theorem own_RS {W : World} {base g c : Nat} {L : List Nat} (h : W.ownsRow base 92 1 (.slice (some ⟨g, 0, none⟩) 8 c) 8 (L.map wv)) (hl : L.length = 8) : RS W g 0 L := fun j hj => by
  rw [Nat.zero_add, h.cellAt j (by omega), wn_get L j (by omega)]
  have : j < L.length := by omega
  simp [this]

set_option maxRecDepth 100000 in
set_option maxHeartbeats 2000000 in
theorem hrsum_any (HW : RWords) (s : List UInt8) (w : World) (hs : s.length ≤ 65536) :
    Calls Tryd.prog 56 #[.string ⟨s.toArray⟩] w fun e w' => e = .returned (.string ⟨(hsumL s).toArray⟩) ∧ Below w.heap.size w w' := by
  have hPl := padL_len s
  have hPm := padL_mod s
  have hZl := padZ_lt s.length
  obtain ⟨nb, hnb⟩ : ∃ nb, (padL s).length / 64 = nb := ⟨_, rfl⟩
  have hPn : (padL s).length = 64 * nb := by omega
  have hsum : hsumL s = bytesW (hsumN (padL s) nb) := by rw [← hnb]; rfl
  obtain ⟨P, hP⟩ : ∃ P, padL s = P := ⟨_, rfl⟩
  have HSUM := Lib.hid hsum
  have HPS := Lib.hid hP
  have hnb2 : nb ≤ 1100 := by omega
  rw [hP] at hPn HSUM
  have hzP := size_of P
  rw [hPn] at hzP
  have HPN := Lib.hid hPn
  have HWW : Hid RWords := HW
  clear hPl hPm hZl hnb hsum hP hPn HW
  go_enter Tryd.func56, Tryd.ntmps56
  go_wp2_with fail
  refine (rstart_any _).mono ?_
  rintro e w1 ⟨gs, rfl, _, hS, hb1⟩
  have HS0 := Lib.hid (RS.blk hS rfl)
  clear hS
  go_wp2_with fail
  refine (rpad_any s _ (by omega)).mono ?_
  rw [HPS.out]
  rintro e w2 ⟨rfl, hb2⟩
  have hB2 := bt hb1 hb2
  have HS2 := Lib.hid (HS0.out.later hb2)
  clear hb1 hb2
  go_wp2_with fail
  go_loopw [3, 5] (fun nv iv wr => ∃ k g off c : Nat, k ≤ nb ∧ iv = .int .i64 ((64 * k : Nat) : Int) ∧ nv = .slice (some ⟨g, off, none⟩) 8 c ∧ RS wr g off (hsumN P k) ∧ Below w.heap.size w wr) (fun _ i _ => 64 * nb - (intOf i).toNat)
  case atStart => exact ⟨0, gs, 0, 8, Nat.zero_le _, rfl, rfl, HS2.out, hB2⟩
  case round =>
    obtain ⟨k, g, off, c, hk, rfl, rfl, hrs, hb⟩ := hrel
    by_cases hlt : k < nb
    · have hex := extract_block P k
      have hbl : (blockAt P k).length = 64 := by rw [blockAt, List.length_take, List.length_drop, HPN.out]; omega
      have HBL := Lib.hid hbl
      have HRS := Lib.hid hrs
      obtain ⟨i, hi⟩ : ∃ i, 64 * k = i := ⟨_, rfl⟩
      rw [hi] at hex ⊢
      have j1 : (i : Int) + 64 ≤ ((64 * nb : Nat) : Int) := by omega
      have j2 : i + 64 ≤ 64 * nb := by omega
      have HI := Lib.hid hi
      clear hbl hrs hi
      go_wp2_with fail
      refine (rmix_any HWW.out g off c (hsumN P k) (blockAt P k) _ HRS.out (hsumN_lt P k) HBL.out).mono ?_
      rintro e w3 ⟨v, rfl, hown, hb3⟩
      obtain ⟨g3, c3, rfl⟩ := ownsRow_succ hown
      have hr3 := own_RS hown (mixL_len _ _)
      have hB3 := bt hb hb3
      clear hown hb3
      go_wp2
      exact ⟨⟨k + 1, g3, 0, c3, by omega, by have := HI.out; go_num, rfl, hr3, hB3⟩, by have := HI.out; simp [intOf]; omega⟩
    · obtain rfl : k = nb := by omega
      obtain ⟨L, hL⟩ : ∃ L, hsumN P k = L := ⟨_, rfl⟩
      have hLl : L.length = 8 := by rw [← hL]; exact sumN_len _ _
      have hLt : ∀ x ∈ L, x < 4294967296 := by rw [← hL]; exact hsumN_lt _ _
      rw [hL] at hrs HSUM
      obtain ⟨wo, rfl⟩ : ∃ wo : World, wo = wr := ⟨_, rfl⟩
      have HRS := Lib.hid hrs
      obtain ⟨i, hi⟩ : ∃ i, 64 * k = i := ⟨_, rfl⟩
      have hil : (i : Int) = (64 * k : Nat) := by omega
      rw [hi]
      rw [hi] at hzP
      clear hi hil
      have HLT := Lib.hid hLt
      have HLL := Lib.hid hLl
      clear hrs hLt hLl hL
      go_wp2_with fail
      go_loopw [6, 27] (fun ov iv wi => ∃ j : Nat, j ≤ 8 ∧ iv = .int .i64 j ∧ ov = .string ⟨(bytesW (L.take j)).toArray⟩ ∧ Below wo.heap.size wo wi) (fun _ i _ => 8 - (intOf i).toNat)
      case atStart => exact ⟨0, Nat.zero_le _, rfl, by simp [bytesW], Below.refl _ _⟩
      case round =>
        obtain ⟨j, hj, rfl, rfl, hbi⟩ := hrel
        by_cases hjl : j < 8
        · have cm := cell_later hbi (HRS.out j hjl)
          have HT := Lib.hid (bytesW_take L j (by rw [HLL.out]; exact hjl))
          have hx1 := wn_lt HLT.out j
          obtain ⟨x, hx⟩ : ∃ x, wn L j = x := ⟨_, rfl⟩
          rw [hx] at cm HT hx1
          have hbl : (bytesW (L.take j)).length ≤ 32 := by rw [bytesW_len, List.length_take]; omega
          have hhl := highB_len x 4
          have hadd : ∀ W : World, (Op.stringOp .add ⟨(bytesW (L.take j)).toArray⟩ ⟨(highB x 4).toArray⟩).run Tryd.prog W = .ok (.string ⟨(bytesW (L.take j) ++ highB x 4).toArray⟩) W := fun W => run_string_add_lists (P := Tryd.prog) W _ _ (by omega) (by omega)
          clear hx hhl
          go_wp2_with fail
          refine (hhigh_any x 4 _ (by omega) (by omega)).mono ?_
          rintro e w5 ⟨rfl, hb5⟩
          go_wp2
          exact ⟨⟨j + 1, by omega, by go_num, by rw [HT.out], bt hbi hb5⟩, by simp [intOf]; omega⟩
        · obtain rfl : j = 8 := by omega
          have htk : L.take 8 = L := List.take_of_length_le (by rw [HLL.out]; exact Nat.le_refl _)
          rw [htk]
          clear htk
          go_wp2
          go_ret
          rw [HSUM.out]
          exact ⟨rfl, bt hb hbi⟩
end Go.Proofs.YtegojdblaanclaaDoor
/- Keys fitted, tags and chains, in plain lists. -/
namespace Go.Proofs.YtegojdblaanclaaDoor

theorem hsumL_len (s : List UInt8) : (hsumL s).length = 32 := by rw [hsumL, bytesW_len, sumN_len]
/-- A key, or its sum if it is too long. -/
def headL (key : List UInt8) : List UInt8 := if key.length ≤ 64 then key else hsumL key
theorem headL_len (key : List UInt8) : (headL key).length ≤ 64 := by
  unfold headL
  split
  · assumption
  · rw [hsumL_len]; omega
/-- A key fitted. -/
def fitL (key : List UInt8) : List UInt8 := headL key ++ List.replicate (64 - (headL key).length) 0
theorem fitL_len (key : List UInt8) : (fitL key).length = 64 := by
  have := headL_len key
  simp [fitL]; omega
def withL (k : List UInt8) (c : UInt8) : List UInt8 := k.map fun b => b ^^^ c
theorem withL_len (k : List UInt8) (c : UInt8) : (withL k c).length = k.length := by simp [withL]
def innL (key : List UInt8) : List UInt8 := withL (fitL key) 54
def outL (key : List UInt8) : List UInt8 := withL (fitL key) 92
theorem innL_len (key : List UInt8) : (innL key).length = 64 := by rw [innL, withL_len, fitL_len]
theorem outL_len (key : List UInt8) : (outL key).length = 64 := by rw [outL, withL_len, fitL_len]
/-- A text's tag, by an inner and an outer key. -/
def tagK (i o s : List UInt8) : List UInt8 := hsumL (o ++ hsumL (i ++ s))
def mtagL (key s : List UInt8) : List UInt8 := tagK (innL key) (outL key) s
theorem tagK_len (i o s : List UInt8) : (tagK i o s).length = 32 := hsumL_len _
theorem mtagL_len (key s : List UInt8) : (mtagL key s).length = 32 := hsumL_len _
def chainK (i o : List UInt8) : List UInt8 → List (List UInt8) → List (List UInt8)
  | _, [] => []
  | first, s :: l => tagK i o (first ++ s) :: chainK i o (tagK i o (first ++ s)) l
def chainL (key first : List UInt8) (l : List (List UInt8)) : List (List UInt8) := chainK (innL key) (outL key) first l
/-- A key with a byte 0 behind it. -/
theorem fitL_zero (key : List UInt8) (h : key.length ≤ 63) : fitL (key ++ [0]) = fitL key := by
  have h1 : headL (key ++ [0]) = key ++ [0] := by unfold headL; rw [if_pos (by simp; omega)]
  have h2 : headL key = key := by unfold headL; rw [if_pos (by omega)]
  unfold fitL
  rw [h1, h2, List.append_assoc]
  congr 1
  obtain ⟨n, hn⟩ : ∃ n, 64 - key.length = n + 1 := ⟨63 - key.length, by omega⟩
  have h3 : 64 - (key ++ [0]).length = n := by simp; omega
  rw [hn, h3, List.replicate_succ]
  rfl
theorem tagL_zero (key s : List UInt8) (h : key.length ≤ 63) : mtagL (key ++ [0]) s = mtagL key s := by
  unfold mtagL innL outL
  rw [fitL_zero key h]
end Go.Proofs.YtegojdblaanclaaDoor
/- A loop over a function that hands pairs on and that, between two rounds, writes cells of its own: what the loop owes. -/
namespace Go.Proofs.YtegojdblaanclaaDoor
open Go.RowKit Go.Shelf

/-- A turned block that is none of the body's: from B on, and either no cells, or the cells of ends. -/
def RowC (B : Nat) (W : World) (row : Option Nat) : Prop :=
  ∀ r, row = some r → B ≤ r ∧ ((∃ o, W.heap[r]? = some o ∧ o.isCells = false) ∨ ∃ c fr, W.heap[r]? = some (Obj.cells c 92 fr))
def KeptC {β : Type} (B : Nat) (J : β → World → Prop) : Prop := ∀ s W W' row, J s W → W.grownBy W' row → RowC B W row → J s W'
/-- What the handing function itself may turn: cells of ends, from B on. -/
def RowI (B : Nat) (W : World) (row : Option Nat) : Prop := ∀ r, row = some r → B ≤ r ∧ ∃ c fr, W.heap[r]? = some (Obj.cells c 92 fr)
def AbC {β : Type} (B : Nat) (J : β → World → Prop) : Prop := ∀ s W W' row, J s W → W.grownBy W' row → RowI B W row → J s W'
/-- What a round that goes on keeps: all below n₀, and all cells of words, and of ints. -/
def KpC (n₀ : Nat) (W W' : World) : Prop := Below n₀ W W' ∧ ∀ (k : Nat) (c : Array Value) (t : TypeId) (fr : Nat × Nat), (t = 92 ∨ t = 3) → W.heap[k]? = some (Obj.cells c t fr) → W'.heap[k]? = some (Obj.cells c t fr)
theorem KpC.trans {n₀ : Nat} {A B C : World} (h : KpC n₀ A B) (k : KpC n₀ B C) : KpC n₀ A C := ⟨h.1.trans k.1, fun i c t fr ht hi => k.2 i c t fr ht (h.2 i c t fr ht hi)⟩
theorem KpC.of_below {n₀ : Nat} {A B : World} (h : Below A.heap.size A B) (hn : n₀ ≤ A.heap.size) : KpC n₀ A B :=
  ⟨h.mono hn, fun k _ _ _ _ hk => (h.block k (Array.getElem?_eq_some_iff.1 hk).1).trans hk⟩
theorem KpC.putObj {n₀ l : Nat} {W : World} {o o' : Obj} (hn : n₀ ≤ l) (hl : W.heap[l]? = some o) (ho : o.isCells = false) : KpC n₀ W (W.putObj l o') := by
  refine ⟨(Below.refl n₀ W).grown (grownBy_putObj' W l o') (by have := (Array.getElem?_eq_some_iff.1 hl).1; omega) (fun k e => by cases e; exact hn), fun k c t fr _ hk => ?_⟩
  have hne : k ≠ l := fun e => by subst e; rw [hk] at hl; cases hl; cases ho
  exact (World.putObj_heap_other hne).trans hk

/-- What is asked of the function that hands the ends on. -/
def HandsC (n gf : Nat) (lb : Array Value) (n₀ : Nat) (zs : List (Nat × Nat)) (w : World) : Prop :=
  ∀ (l : Nat) (J Jx : List (Nat × Nat) → World → Prop) (W : World), Below w.heap.size w W → AbC W.heap.size J → AbC W.heap.size Jx →
    (∀ pre x W1, J pre W1 → (pre ++ [x]) <+: zs → YieldAt Fence.wide (n - 1) Tryd.prog l #[.int .i64 (x.1 : Int), .int .u32 (x.2 : Int)] W1 fun e W' =>
      (e = .returned (.bool true) ∧ J (pre ++ [x]) W' ∧ KpC n₀ W1 W') ∨ (e = .returned (.bool false) ∧ Jx (pre ++ [x]) W')) → J [] W →
    CallsIn Fence.wide n Tryd.prog gf (#[.func (.yield l) #[] #[]] ++ lb) W fun e W' => (∃ v, e = .returned v) ∧ (J zs W' ∨ ∃ pre, pre <+: zs ∧ Jx pre W')

/-- How a round may be left. -/
def LeftC (B n₀ : Nat) (I : List (Nat × Nat) → World → Prop) (Ix : Code → List (Nat × Nat) → World → Prop) (xs : List (Nat × Nat)) (W : World) : Exit → Act → World → Prop
  | .normal, _, W' => KeepsFrom B W W' ∧ KpC n₀ W W' ∧ I xs W'
  | .ret, _, W' => KeepsFrom B W W' ∧ Ix .ret xs W'
  | _, _, _ => False

theorem RowC.cells {B : Nat} {W W' : World} {row : Option Nat} {k : Nat} {o : Obj} (h : RowC B W row) (hg : W.grownBy W' row) (hk : W.heap[k]? = some o) (hc : o.isCells = true) (ht : ∀ c fr, o ≠ .cells c 92 fr) : W'.heap[k]? = some o := by
  refine (hg.block k (Array.getElem?_eq_some_iff.1 hk).1 (fun e => ?_)).trans hk
  obtain ⟨_, ⟨o', ho, hn⟩ | ⟨c, fr, ho⟩⟩ := h k e.symm
  · rw [hk] at ho; cases ho; rw [hc] at hn; cases hn
  · rw [hk] at ho; cases ho; exact ht _ _ rfl
theorem RowI.others {B : Nat} {W W' : World} {row : Option Nat} {k : Nat} {o : Obj} (h : RowI B W row) (hg : W.grownBy W' row) (hk : W.heap[k]? = some o) (hc : o.isCells = false) : W'.heap[k]? = some o := by
  refine (hg.block k (Array.getElem?_eq_some_iff.1 hk).1 (fun e => ?_)).trans hk
  obtain ⟨_, c, fr, ho⟩ := h k e.symm
  rw [hk] at ho; cases ho; cases hc
theorem RowI.toC {B B' : Nat} {W : World} {row : Option Nat} (h : RowI B W row) (hb : B' ≤ B) : RowC B' W row := fun r e => ⟨Nat.le_trans hb (h r e).1, .inr (h r e).2⟩
theorem KeptC.alloc {β : Type} {B : Nat} {J : β → World → Prop} (h : KeptC B J) {s : β} {W : World} (o : Obj) (hs : J s W) : J s (W.alloc o) := h s W _ none hs (World.grownBy_alloc W o none) (fun r e => by cases e)
theorem KeptC.putObj {β : Type} {B : Nat} {J : β → World → Prop} (h : KeptC B J) {s : β} {W : World} {l : Nat} {o : Obj} (o' : Obj) (hs : J s W) (hB : B ≤ l) (hl : W.heap[l]? = some o) (ho : o.isCells = false) : J s (W.putObj l o') :=
  h s W _ (some l) hs (grownBy_putObj' W l o') (fun r e => by cases e; exact ⟨hB, .inl ⟨o, hl, ho⟩⟩)

set_option maxHeartbeats 1000000 in
theorem range_cells {n : Nat} {g : Operand} {p p2 : Tmp} {assign body : Code} {Q : Exit → Act → World → Prop} {a : Act} {w w0 : World} (hn : 1 ≤ n) {gf : Nat} {lb : Array Value}
    (hg : a.eval g = .func (.func gf) #[] lb) (eg : ∀ args w, (callFunc gf args).run Tryd.prog w = .ok (.enter gf args) w) {n₀ : Nat} (hn₀ : n₀ ≤ w.heap.size) {zs : List (Nat × Nat)} (hH : HandsC (n - 1) gf lb n₀ zs w0) (hb0 : Below w0.heap.size w0 w)
    (I : List (Nat × Nat) → World → Prop) (Ix : Code → List (Nat × Nat) → World → Prop) (hI : KeptC w.heap.size I) (hIx : ∀ c, KeptC w.heap.size (Ix c)) (h0 : I [] w) (Ax : (Nat × Nat) → Act → World → Prop) (hAx : ∀ x a' W l o o', Ax x a' W → w.heap.size ≤ l → W.heap[l]? = some o → o.isCells = false → Ax x a' (W.putObj l o'))
    (hassign : ∀ (l : Nat) (pre : List (Nat × Nat)) (x : (Nat × Nat)) (W : World) (K : Act → World → Prop), I pre W → (∀ a' W', KeepsFrom w.heap.size W W' → KpC n₀ W W' → I pre W' → Ax x a' W' → K a' W') →
      assign.wpIn (Fence.wide.inRound l) (n - 1 - 1) Tryd.prog (Exit.then K (fun _ _ _ => False)) { tmps := (#[p, p2].zip #[Value.int .i64 (x.1 : Int), Value.int .u32 (x.2 : Int)]).foldl (fun t (p, v) => t.setIfInBounds p v) a.tmps, defers := [] } W)
    (hbody : ∀ (l : Nat) (pre : List (Nat × Nat)) (x : (Nat × Nat)) (a' : Act) (W : World), w.heap.size ≤ l → I pre W → Ax x a' W → (pre ++ [x]) <+: zs → body.wpIn (Fence.wide.inRound l) (n - 1 - 1) Tryd.prog (LeftC w.heap.size n₀ I Ix (pre ++ [x]) W) a' W)
    (hdone : ∀ (D : Nat) (W : World), w.heap.size ≤ D → I zs W → W.heap[D]? = some (.deferred (some [])) → Q .normal { a with defers := { target := .collected D, args := #[] } :: a.defers } W)
    (hstop : ∀ (D : Nat) (c : Code) (pre : List (Nat × Nat)) (W : World), w.heap.size ≤ D → pre <+: zs → Ix c pre W → W.heap[D]? = some (.deferred (some [])) → c.wpIn Fence.wide n Tryd.prog Q { a with defers := { target := .collected D, args := #[] } :: a.defers } W) :
    (Code.rangeFunc g #[p, p2] assign body).wpIn Fence.wide n Tryd.prog Q a w := by
  refine wpIn_rangeFunc fun fn hfn => ?_
  -- the loop's record and the block for deferred calls
  let R : LoopState → Option Code → Loop := fun st pe => { state := st, pending := pe, fn, tmps := a.tmps, params := #[p, p2], assign, body, defers := w.heap.size }
  let V : World := (w.alloc (.deferred (some []))).alloc (.loop (R .ready none))
  have hVl : V.heap[w.heap.size + 1]? = some (.loop (R .ready none)) := by
    have := World.alloc_heap_new (w.alloc (.deferred (some []))) (.loop (R .ready none)); rwa [World.size_alloc] at this
  have hVd : V.heap[w.heap.size]? = some (.deferred (some [])) := (Below.heap_alloc _ _ _ (by simp)).trans (World.alloc_heap_new w _)
  have hVs : V.heap.size = w.heap.size + 2 := by simp [V]
  have hVb : Below w0.heap.size w0 V := hb0.trans ((((Below.refl _ w).alloc (Nat.le_refl _) _).alloc (by simp) _).mono hb0.size)
  refine ⟨w.heap.size + 1, [{ target := .collected w.heap.size, args := #[] }], V, { target := .fn (.func gf) lb, args := #[.func (.yield (w.heap.size + 1)) #[] #[]] }, V, gf,
    #[.func (.yield (w.heap.size + 1)) #[] #[]] ++ lb, V, run_enterLoop_outer _ _ _ _ _, ?_, fun _ _ => trivial, ?_, fun _ => hn, ?_⟩
  · simp only [resolve, hg]
    simp [go_sem]
  · simp [invoke, go_sem, eg]
  refine (hH (w.heap.size + 1)
    (fun pre W => I pre W ∧ W.heap[w.heap.size + 1]? = some (.loop (R .ready none)) ∧ W.heap[w.heap.size]? = some (.deferred (some [])))
    (fun pre W => ∃ c, Ix c pre W ∧ W.heap[w.heap.size + 1]? = some (.loop (R .done (some c))) ∧ W.heap[w.heap.size]? = some (.deferred (some [])))
    V hVb
    (fun s A B row hs hgr hr => ⟨hI s A B row hs.1 hgr (hr.toC (by omega)), hr.others hgr hs.2.1 rfl, hr.others hgr hs.2.2 rfl⟩)
    (fun s A B row ⟨c, h1, h2, h3⟩ hgr hr => ⟨c, hIx c s A B row h1 hgr (hr.toC (by omega)), hr.others hgr h2 rfl, hr.others hgr h3 rfl⟩)
    ?_ ⟨hI.alloc _ (hI.alloc _ h0), hVl, hVd⟩).mono ?_
  · -- one round
    rintro pre x W ⟨hi, hl, hd⟩ hlen
    refine ⟨fn, _, assign, body, run_yield (P := Tryd.prog) (args := #[.int .i64 (x.1 : Int), .int .u32 (x.2 : Int)]) hl rfl, roundIn_of_wpIn hfn (hassign _ pre x W _ hi ?_)⟩
    intro a' U hUk hUp hUi hUa
    have hl1 := hUk.same _ _ (by omega) hl rfl
    have hd1 := hUk.same _ _ (Nat.le_refl _) hd rfl
    have hlt := (Array.getElem?_eq_some_iff.1 hl1).1
    refine ⟨_, run_beginRound hl1 rfl, ?_⟩
    let Z : World := U.putObj (w.heap.size + 1) (.loop (R .busy none))
    have hl2 : Z.heap[w.heap.size + 1]? = some (.loop (R .busy none)) := World.putObj_heap_same hlt
    have hd2 : Z.heap[w.heap.size]? = some (.deferred (some [])) := (World.putObj_heap_other (by omega)).trans hd1
    have hZp : KpC n₀ U Z := KpC.putObj (by omega) hl1 rfl
    refine wpIn_mono (hbody _ pre x a' Z (by omega) (hI.putObj _ hUi (by omega) hl1 rfl) (hAx _ _ _ _ _ _ hUa (by omega) hl1 rfl) hlen) ?_
    intro e a3 W3 hp
    cases e with
    | normal =>
      obtain ⟨hk3, hp3, hi3⟩ := hp
      have hl3 := hk3.same _ _ (by omega) hl2 rfl
      have hd3 := hk3.same _ _ (Nat.le_refl _) hd2 rfl
      exact ⟨_, _, run_endRound none hl3, .inl ⟨rfl, ⟨hI.putObj _ hi3 (by omega) hl3 rfl, World.putObj_heap_same (Array.getElem?_eq_some_iff.1 hl3).1, (World.putObj_heap_other (by omega)).trans hd3⟩,
        hUp.trans (hZp.trans (hp3.trans (KpC.putObj (by omega) hl3 rfl)))⟩⟩
    | ret =>
      obtain ⟨hk3, hi3⟩ := hp
      have hl3 := hk3.same _ _ (by omega) hl2 rfl
      have hd3 := hk3.same _ _ (Nat.le_refl _) hd2 rfl
      exact ⟨_, _, run_endRound (some .ret) hl3, .inr ⟨rfl, .ret, (hIx _).putObj _ hi3 (by omega) hl3 rfl, World.putObj_heap_same (Array.getElem?_eq_some_iff.1 hl3).1, (World.putObj_heap_other (by omega)).trans hd3⟩⟩
    | exit id => exact hp.elim
    | goto t => exact hp.elim
    | panic ch => exact hp.elim
    | outgrown => exact hp.elim
  · -- behind the loop
    rintro e W2 ⟨⟨v, rfl⟩, ⟨hi, hl, hd⟩ | ⟨pre, hp, c, hi, hl, hd⟩⟩
    · exact ⟨none, _, run_endLoop (P := Tryd.prog) hl (by simp [R]), hdone _ _ (Nat.le_refl _) (hI.putObj _ hi (by omega) hl rfl) ((World.putObj_heap_other (by omega)).trans hd)⟩
    · exact ⟨some c, _, run_endLoop (P := Tryd.prog) hl (by simp [R]), hstop _ c pre _ (Nat.le_refl _) hp ((hIx c).putObj _ hi (by omega) hl rfl) ((World.putObj_heap_other (by omega)).trans hd)⟩
end Go.Proofs.YtegojdblaanclaaDoor
/- The contracts of math/bits.RotateLeft32 and of the code's ror. -/
namespace Go.Proofs.YtegojdblaanclaaDoor
open Go.RowKit

theorem neg_mask (n : Nat) (h1 : 1 ≤ n) (h2 : n ≤ 31) : bits .and .u64 (IntKind.u64.wrap (-(n : Int))) 31 = ((32 - n : Nat) : Int) := by
  have e : IntKind.u64.wrap (-(n : Int)) = ((18446744073709551616 - n : Nat) : Int) := by rw [IntKind.wrap_u64]; omega
  rw [e]
  have h := bits_and_u64_nat (18446744073709551616 - n) 31 (by omega) (by omega)
  have e2 : (18446744073709551616 - n) &&& 31 = (18446744073709551616 - n) % 32 := Nat.and_two_pow_sub_one_eq_mod _ 5
  rw [e2] at h
  refine h.trans ?_
  omega

set_option maxRecDepth 100000 in
set_option maxHeartbeats 1000000 in
theorem hrot_any (x n : Nat) (w : World) (hx : (x : Int) < 4294967296) (h1 : 1 ≤ n) (h2 : n ≤ 31) :
    Calls Tryd.prog 96 #[.int .u32 (x : Int), .int .i64 (-(n : Int))] w fun e w' => e = .returned (.int .u32 (ror x n : Nat)) ∧ w = w' := by
  have hm := neg_mask n h1 h2
  go_enter Tryd.func96, Tryd.ntmps96
  go_wp2
  go_ret
  refine ⟨?_, rfl⟩
  have e1 : (x : Int) / 2 ^ (32 - (32 - n)) = ((x / 2 ^ n : Nat) : Int) := by rw [show 32 - (32 - n) = n by omega]; simp
  have e2 : (x : Int) * 2 ^ (32 - n) % 4294967296 = ((x * 2 ^ (32 - n) % 4294967296 : Nat) : Int) := by simp
  have e3 : bits .or .u32 ((x : Int) * 2 ^ (32 - n) % 4294967296) ((x : Int) / 2 ^ (32 - (32 - n))) = ((ror x n : Nat) : Int) := by
    rw [e1, e2, u32_or_nat _ _ (Nat.mod_lt _ (by omega)) (Nat.lt_of_le_of_lt (Nat.div_le_self _ _) (by omega)), Nat.or_comm]
    rfl
  rw [← e3]
  rfl

set_option maxRecDepth 100000 in
set_option maxHeartbeats 1000000 in
theorem cror_any (x n : Nat) (w : World) (hx : (x : Int) < 4294967296) (h1 : 1 ≤ n) (h2 : n ≤ 31) :
    Calls Tryd.prog 85 #[.int .u32 (x : Int), .int .i64 (n : Int)] w fun e w' => e = .returned (.int .u32 (ror x n : Nat)) ∧ w = w' := by
  go_enter Tryd.func85, Tryd.ntmps85
  go_wp2_with ((with_reducible refine (hrot_any x n _ hx h1 h2).mono ?_); rintro e w' ⟨rfl, rfl⟩)
  go_ret
  exact ⟨rfl, rfl⟩
/-- The same at a literal, as a quiet call. -/
theorem cror_at (x n : Nat) (k : Int) (w : World) (hx : x < 4294967296) (hk : (n : Int) = k) (h1 : 1 ≤ n) (h2 : n ≤ 31) (m : Nat) :
    Calls Tryd.prog 85 #[.int .u32 (x : Int), .int .i64 k] (w.drewN m) fun e w' => e = .returned (.int .u32 (ror x n : Nat)) ∧ ∃ q, w' = w.drewN q := by
  subst hk
  exact (cror_any x n _ (by omega) h1 h2).mono fun _ _ ⟨he, hm⟩ => ⟨he, m, hm.symm⟩
end Go.Proofs.YtegojdblaanclaaDoor
/- The contract of hasFactor. -/
namespace Go.Proofs.YtegojdblaanclaaDoor
open Go.RowKit

/-- Whether one of the numbers, up to the root, divides n. -/
def hasF (n : Nat) : List Nat → Bool
  | [] => false
  | p :: r => if n < p * p then false else if n % p = 0 then true else hasF n r

set_option maxRecDepth 100000 in
set_option maxHeartbeats 2000000 in
theorem hasF_any (n : Nat) (A : Option Addr) (c m : Nat) (L : List Nat) (w : World) (hA : WR w A L) (hl : L.length = m) (h64 : m ≤ 64) (hn : (n : Int) < 4294967296) (hL : ∀ x ∈ L, 2 ≤ x ∧ x < 1000) :
    Calls Tryd.prog 88 #[.int .u32 (n : Int), .slice A m c] w fun e w' => e = .returned (.bool (hasF n L)) ∧ w = w' := by
  have HA := Lib.hid hA
  have HL := Lib.hid hl
  have HX := Lib.hid hL
  clear hA hl hL
  go_enter Tryd.func88, Tryd.ntmps88
  go_wp2_with fail
  go_loop [9] (fun iv => ∃ k : Nat, k ≤ m ∧ iv = .int .i64 k ∧ Hid (hasF n L = hasF n (L.drop k))) (fun i => m - (intOf i).toNat)
  case atStart => exact ⟨0, Nat.zero_le _, rfl, Lib.hid (by simp)⟩
  case round =>
    obtain ⟨k, hk, rfl, HF⟩ := hrel
    by_cases hlt : k < m
    · have hkl : k < L.length := by rw [HL.out]; exact hlt
      obtain ⟨g, off, rfl, c0⟩ := HA.out k hkl
      have hx := HX.out _ (List.getElem_mem hkl)
      rw [wn_get L k hkl] at c0
      have HS : Hid (hasF n (L.drop k) = if n < L[k] * L[k] then false else if n % L[k] = 0 then true else hasF n (L.drop (k + 1))) := Lib.hid (by rw [List.drop_eq_getElem_cons hkl, hasF])
      obtain ⟨x, hx'⟩ : ∃ x, L[k] = x := ⟨_, rfl⟩
      rw [hx'] at c0 hx HS
      obtain ⟨hx1, hx2⟩ := hx
      clear hx' hkl
      have hq : x * x ≤ 999 * 999 := Nat.mul_le_mul (by omega) (by omega)
      obtain ⟨q, hqq⟩ : ∃ q, x * x = q := ⟨_, rfl⟩
      have hw : IntKind.u32.wrap ((x : Int) * (x : Int)) = (q : Int) := by rw [← Int.natCast_mul, hqq, IntKind.wrap_u32]; omega
      rw [hqq] at hq HS
      clear hqq
      have hx3 : (2 : Int) ≤ (x : Int) := by omega
      by_cases h1 : n < q
      · have HE : Hid (hasF n L = false) := Lib.hid (by rw [HF.out, HS.out, if_pos h1])
        go_wp2
        go_ret
        rw [HE.out]
        exact ⟨rfl, rfl⟩
      · by_cases h2 : n % x = 0
        · have HE : Hid (hasF n L = true) := Lib.hid (by rw [HF.out, HS.out, if_neg h1, if_pos h2])
          have h2' : (n : Int) % (x : Int) = 0 := by omega
          have H2 := Lib.hid h2
          clear h2
          go_wp2
          go_ret
          rw [HE.out]
          exact ⟨rfl, rfl⟩
        · have HE : Hid (hasF n L = hasF n (L.drop (k + 1))) := Lib.hid (by rw [HF.out, HS.out, if_neg h1, if_neg h2])
          have h2' : ¬ (n : Int) % (x : Int) = 0 := by omega
          have h2'' : ((n : Int) % (x : Int) == 0) = false := by simpa using h2'
          have H2 := Lib.hid h2
          have H2' := Lib.hid h2'
          clear h2 h2'
          go_wp2
          exact ⟨⟨k + 1, by omega, by go_num, HE⟩, by simp [intOf]; omega⟩
    · obtain rfl : k = m := by omega
      have HE : Hid (hasF n L = false) := Lib.hid (by rw [HF.out, ← HL.out, List.drop_length, hasF])
      go_wp2
      go_ret
      rw [HE.out]
      exact ⟨rfl, rfl⟩
end Go.Proofs.YtegojdblaanclaaDoor
