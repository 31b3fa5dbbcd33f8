/- The contract of the reference's Sum, if words is as it should be. -/
import Derived.Test.YtilcondnpoinkaaHMixR
import Derived.Test.YtilcondnpoinkaaHPadR
import Derived.Lib.SlBytesRow
namespace Go.Proofs.Ytilcondnpoinkaa
open Go.RowKit

/-- A text's block, by its place. -/
def blockAt (P : List UInt8) (k : Nat) : List UInt8 := (P.drop (64 * k)).take 64
/-- The first state mixed with so many blocks. -/
def sumN (P : List UInt8) : Nat → List Nat
  | 0 => startL
  | k + 1 => mixL (sumN P k) (blockAt P k)
/-- Words' bytes. -/
def bytesW (L : List Nat) : List UInt8 := L.flatMap fun x => highB x 4
/-- A text's sum. -/
def sumL (s : List UInt8) : List UInt8 := bytesW (sumN (padL s) ((padL s).length / 64))
theorem sumN_len (P : List UInt8) (k : Nat) : (sumN P k).length = 8 := by
  cases k with
  | zero => rfl
  | succ k => exact mixL_len _ _
theorem start_lt : ∀ x ∈ startL, x < 4294967296 := by decide
theorem sumN_lt (P : List UInt8) (k : Nat) : ∀ x ∈ sumN P k, x < 4294967296 := by
  cases k with
  | zero => exact start_lt
  | succ k => exact mixL_lt _ _
theorem padL_len (s : List UInt8) : (padL s).length = s.length + 9 + padZ s.length := by
  simp [padL, highB_len]; omega
theorem padL_mod (s : List UInt8) : (padL s).length % 64 = 0 := by
  rw [padL_len]
  have := padZ_mod s.length
  omega
theorem bytesW_len (L : List Nat) : (bytesW L).length = 4 * L.length := by
  induction L with
  | nil => rfl
  | cons x L ih =>
    have e : bytesW (x :: L) = highB x 4 ++ bytesW L := by simp [bytesW]
    rw [e, List.length_append, ih, highB_len]; simp; omega
theorem bytesW_take (L : List Nat) (k : Nat) (h : k < L.length) : bytesW (L.take (k + 1)) = bytesW (L.take k) ++ highB (wn L k) 4 := by
  rw [← List.take_append_getElem h, wn_get L k h]
  unfold bytesW
  rw [List.flatMap_append]
  simp only [List.flatMap_cons, List.flatMap_nil, List.append_nil]
theorem extract_block (P : List UInt8) (k : Nat) : (⟨P.toArray⟩ : ByteArray).extract (64 * k) (64 * k + 64) = ⟨(blockAt P k).toArray⟩ := by
  apply ByteArray.ext
  apply Array.toList_inj.1
  rw [Lib.extract_data]
  simp [blockAt]
theorem own_RS {W : World} {base g c : Nat} {L : List Nat} (h : W.ownsRow base 66 1 (.slice (some ⟨g, 0, none⟩) 8 c) 8 (L.map wv)) (hl : L.length = 8) : RS W g 0 L := fun j hj => by
  rw [Nat.zero_add, h.cellAt j (by omega), wn_get L j (by omega)]
  have : j < L.length := by omega
  simp [this]

set_option maxRecDepth 100000 in
set_option maxHeartbeats 2000000 in
theorem rsum_any (HW : RWords) (s : List UInt8) (w : World) (hs : s.length ≤ 65536) :
    Calls Try.prog 29 #[.string ⟨s.toArray⟩] w fun e w' => e = .returned (.string ⟨(sumL s).toArray⟩) ∧ Below w.heap.size w w' := by
  have hPl := padL_len s
  have hPm := padL_mod s
  have hZl := padZ_lt s.length
  obtain ⟨nb, hnb⟩ : ∃ nb, (padL s).length / 64 = nb := ⟨_, rfl⟩
  have hPn : (padL s).length = 64 * nb := by omega
  have hsum : sumL s = bytesW (sumN (padL s) nb) := by rw [← hnb]; rfl
  obtain ⟨P, hP⟩ : ∃ P, padL s = P := ⟨_, rfl⟩
  have HSUM := Lib.hid hsum
  have HPS := Lib.hid hP
  have hnb2 : nb ≤ 1100 := by omega
  rw [hP] at hPn HSUM
  have hzP := size_of P
  rw [hPn] at hzP
  have HPN := Lib.hid hPn
  have HWW : Hid RWords := HW
  clear hPl hPm hZl hnb hsum hP hPn HW
  go_enter Try.func29, Try.ntmps29
  go_wp2_with fail
  refine (rstart_any _).mono ?_
  rintro e w1 ⟨gs, rfl, _, hS, hb1⟩
  have HS0 := Lib.hid (RS.blk hS rfl)
  clear hS
  go_wp2_with fail
  refine (rpad_any s _ (by omega)).mono ?_
  rw [HPS.out]
  rintro e w2 ⟨rfl, hb2⟩
  have hB2 := bt hb1 hb2
  have HS2 := Lib.hid (HS0.out.later hb2)
  clear hb1 hb2
  go_wp2_with fail
  go_loopw [3, 5] (fun nv iv wr => ∃ k g off c : Nat, k ≤ nb ∧ iv = .int .i64 ((64 * k : Nat) : Int) ∧ nv = .slice (some ⟨g, off, none⟩) 8 c ∧ RS wr g off (sumN P k) ∧ Below w.heap.size w wr) (fun _ i _ => 64 * nb - (intOf i).toNat)
  case atStart => exact ⟨0, gs, 0, 8, Nat.zero_le _, rfl, rfl, HS2.out, hB2⟩
  case round =>
    obtain ⟨k, g, off, c, hk, rfl, rfl, hrs, hb⟩ := hrel
    by_cases hlt : k < nb
    · have hex := extract_block P k
      have hbl : (blockAt P k).length = 64 := by rw [blockAt, List.length_take, List.length_drop, HPN.out]; omega
      have HBL := Lib.hid hbl
      have HRS := Lib.hid hrs
      obtain ⟨i, hi⟩ : ∃ i, 64 * k = i := ⟨_, rfl⟩
      rw [hi] at hex ⊢
      have j1 : (i : Int) + 64 ≤ ((64 * nb : Nat) : Int) := by omega
      have j2 : i + 64 ≤ 64 * nb := by omega
      have HI := Lib.hid hi
      clear hbl hrs hi
      go_wp2_with fail
      refine (rmix_any HWW.out g off c (sumN P k) (blockAt P k) _ HRS.out (sumN_lt P k) HBL.out).mono ?_
      rintro e w3 ⟨v, rfl, hown, hb3⟩
      obtain ⟨g3, c3, rfl⟩ := ownsRow_succ hown
      have hr3 := own_RS hown (mixL_len _ _)
      have hB3 := bt hb hb3
      clear hown hb3
      go_wp2
      exact ⟨⟨k + 1, g3, 0, c3, by omega, by have := HI.out; go_num, rfl, hr3, hB3⟩, by have := HI.out; simp [intOf]; omega⟩
    · obtain rfl : k = nb := by omega
      obtain ⟨L, hL⟩ : ∃ L, sumN P k = L := ⟨_, rfl⟩
      have hLl : L.length = 8 := by rw [← hL]; exact sumN_len _ _
      have hLt : ∀ x ∈ L, x < 4294967296 := by rw [← hL]; exact sumN_lt _ _
      rw [hL] at hrs HSUM
      obtain ⟨wo, rfl⟩ : ∃ wo : World, wo = wr := ⟨_, rfl⟩
      have HRS := Lib.hid hrs
      obtain ⟨i, hi⟩ : ∃ i, 64 * k = i := ⟨_, rfl⟩
      have hil : (i : Int) = (64 * k : Nat) := by omega
      rw [hi]
      rw [hi] at hzP
      clear hi hil
      have HLT := Lib.hid hLt
      have HLL := Lib.hid hLl
      clear hrs hLt hLl hL
      go_wp2_with fail
      go_loopw [6, 27] (fun ov iv wi => ∃ j : Nat, j ≤ 8 ∧ iv = .int .i64 j ∧ ov = .string ⟨(bytesW (L.take j)).toArray⟩ ∧ Below wo.heap.size wo wi) (fun _ i _ => 8 - (intOf i).toNat)
      case atStart => exact ⟨0, Nat.zero_le _, rfl, by simp [bytesW], Below.refl _ _⟩
      case round =>
        obtain ⟨j, hj, rfl, rfl, hbi⟩ := hrel
        by_cases hjl : j < 8
        · have cm := cell_later hbi (HRS.out j hjl)
          have HT := Lib.hid (bytesW_take L j (by rw [HLL.out]; exact hjl))
          have hx1 := wn_lt HLT.out j
          obtain ⟨x, hx⟩ : ∃ x, wn L j = x := ⟨_, rfl⟩
          rw [hx] at cm HT hx1
          have hbl : (bytesW (L.take j)).length ≤ 32 := by rw [bytesW_len, List.length_take]; omega
          have hhl := highB_len x 4
          have hadd : ∀ W : World, (Op.stringOp .add ⟨(bytesW (L.take j)).toArray⟩ ⟨(highB x 4).toArray⟩).run Try.prog W = .ok (.string ⟨(bytesW (L.take j) ++ highB x 4).toArray⟩) W := fun W => run_string_add_lists (P := Try.prog) W _ _ (by omega) (by omega)
          clear hx hhl
          go_wp2_with fail
          refine (high_any x 4 _ (by omega) (by omega)).mono ?_
          rintro e w5 ⟨rfl, hb5⟩
          go_wp2
          exact ⟨⟨j + 1, by omega, by go_num, by rw [HT.out], bt hbi hb5⟩, by simp [intOf]; omega⟩
        · obtain rfl : j = 8 := by omega
          have htk : L.take 8 = L := List.take_of_length_le (by rw [HLL.out]; exact Nat.le_refl _)
          rw [htk]
          clear htk
          go_wp2
          go_ret
          rw [HSUM.out]
          exact ⟨rfl, bt hb hbi⟩
end Go.Proofs.Ytilcondnpoinkaa
