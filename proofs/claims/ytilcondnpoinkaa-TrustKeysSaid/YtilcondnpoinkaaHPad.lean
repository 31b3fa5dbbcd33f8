/- The contract of the code's Pad. -/
import Derived.Test.YtilcondnpoinkaaHBld
import Derived.Test.YtilcondnpoinkaaHPadR
namespace Go.Proofs.Ytilcondnpoinkaa
open Go.RowKit

theorem bcells_snoc (l : List UInt8) (b : UInt8) : Lib.byteCells l ++ [.int .u8 (b.toNat : Int)] = Lib.byteCells (l ++ [b]) := by simp [Lib.byteCells]
theorem bcells_len (l : List UInt8) : (Lib.byteCells l).length = l.length := by simp [Lib.byteCells]
/-- A number's 8 bytes, the highest first, so many of them. -/
def topB (n k : Nat) : List UInt8 := (List.range k).map fun i => UInt8.ofNat (n / 2 ^ (8 * (7 - i)) % 256)
theorem topB_succ (n k : Nat) : topB n (k + 1) = topB n k ++ [UInt8.ofNat (n / 2 ^ (8 * (7 - k)) % 256)] := by simp [topB, List.range_succ]
theorem topB_len (n k : Nat) : (topB n k).length = k := by simp [topB]
theorem topB_all (n : Nat) : topB n 8 = highB n 8 := by
  simp [topB, List.range_succ, highB, lowB, Nat.div_div_eq_div_mul]

/-- How many bytes a builder holds, read off the memory. -/
def bldLen (W : World) (b : Nat) : Nat := match W.cell? ⟨b, 1, none⟩ with | some (.slice _ n _) => n | _ => 0
theorem bldLen_of {W : World} {B b : Nat} {cs : List Value} (h : Bld W B b cs) : bldLen W b = cs.length := by
  have key : ∀ p, Lib.BuilderAt 93 5 B b p cs W → bldLen W b = cs.length := by
    rintro p ⟨hB, v, hv, hown, hne⟩
    have hc : W.cell? ⟨b, 1, none⟩ = some v := by rw [Lib.cell_of_heap hv]; rfl
    rcases hown.2 with ⟨rfl, h0⟩ | ⟨g, cap, cur, rfl, _⟩
    · simp [bldLen, hc, h0]
    · simp [bldLen, hc]
  rcases h with h | h
  · exact key _ h
  · exact key _ h

set_option maxRecDepth 100000 in
set_option maxHeartbeats 2000000 in
theorem pad_any (s : List UInt8) (w : World) (hs : s.length ≤ 1048576) :
    Calls Try.prog 48 #[.string ⟨s.toArray⟩] w fun e w' => e = .returned (.string ⟨(padL s).toArray⟩) ∧ Below w.heap.size w w' := by
  have hz := size_of s
  obtain ⟨N, hN⟩ : ∃ N, s.length = N := ⟨_, rfl⟩
  have hZ1 := padZ_mod N
  have hZ2 := padZ_first N
  have hZ3 := padZ_lt N
  obtain ⟨Z, hZ⟩ : ∃ Z, padZ N = Z := ⟨_, rfl⟩
  rw [hZ] at hZ1 hZ2 hZ3
  have HZ1 := Lib.hid hZ1
  have HZ2 := Lib.hid hZ2
  have HP : Hid (padL s = s ++ [128] ++ List.replicate Z 0 ++ topB (8 * N) 8) := Lib.hid (by unfold padL; rw [hN, hZ, topB_all])
  rw [hN] at hz hs
  have HN := Lib.hid hN
  have HZ := Lib.hid hz
  clear hN hZ hZ1 hZ2
  have hG := bgrow_any w.heap.size w.heap.size (N + 64 + 8) (w.alloc (.cells #[.pointer none, .slice none 0 0] 93)) (Nat.le_refl _) (heap_alloc_new w _) (by simp) (by omega)
  have HG := Lib.hid hG
  clear hG
  go_enter Try.func48, Try.ntmps48
  go_wp2_with fail
  refine HG.out.mono ?_
  rintro e w1 ⟨rfl, h1, hb1⟩
  have hB1 : Below w.heap.size w w1 := (ba (Below.refl _ _) _).trans hb1
  have z1 := hB1.size
  clear hz
  go_wp2_with fail
  refine (bstring_any _ _ _ ⟨s.toArray⟩ _ h1 (by rw [HZ.out]; simp; omega) z1).mono ?_
  rintro e w2 ⟨rfl, h2, hb2⟩
  have hB2 : Below w.heap.size w w2 := hB1.trans hb2
  have z2 := hB2.size
  have hl2 : ([] ++ Lib.strCells ⟨s.toArray⟩ : List Value).length = N := by rw [List.nil_append, Lib.strCells_length, HZ.out]
  have HL2 := Lib.hid hl2
  clear hl2
  go_wp2_with fail
  refine (bbyte_any _ _ _ _ _ h2 (by rw [HL2.out]; omega) z2).mono ?_
  rintro e w3 ⟨rfl, h3, hb3⟩
  have hB3 : Below w.heap.size w w3 := hB2.trans hb3
  have h3' : Bld w3 w.heap.size w.heap.size (Lib.byteCells (s ++ [128])) := by
    have e : Lib.byteCells (s ++ [128]) = [] ++ Lib.strCells ⟨s.toArray⟩ ++ [.int .u8 128] := by simp [Lib.byteCells, Lib.strCells_eq]
    rw [e]; exact h3
  clear h1 h2 h3 hb1 hb2 hb3 hB1 hB2 z1 z2 HL2 HG
  go_wp2_with fail
  go_loopw [17] (fun _ wr => ∃ k : Nat, k ≤ Z ∧ Bld wr w.heap.size w.heap.size (Lib.byteCells (s ++ [128] ++ List.replicate k 0)) ∧ Below w.heap.size w wr) (fun _ wr => 2097152 - bldLen wr w.heap.size)
  case atStart => exact ⟨0, Nat.zero_le _, by simpa using h3', hB3⟩
  case round =>
    obtain ⟨k, hk, h4, hb⟩ := hrel
    obtain ⟨S, hS⟩ : ∃ S, s ++ [128] ++ List.replicate k 0 = S := ⟨_, rfl⟩
    have hl : S.length = N + 1 + k := by rw [← hS, ← HN.out]; simp; omega
    have hS1 : s ++ [128] ++ List.replicate (k + 1) 0 = S ++ [0] := by rw [← hS, List.replicate_succ']; simp
    rw [hS] at h4
    have z := hb.size
    have hlen : (Lib.byteCells S).length = N + 1 + k := by rw [bcells_len, hl]
    have HM := Lib.hid (bldLen_of h4)
    have HLN := Lib.hid hlen
    have hLen := blen_any _ _ _ _ h4
    rw [hlen] at hLen
    have HLen := Lib.hid hLen
    have HS := Lib.hid hS
    have HS1 := Lib.hid hS1
    have HL := Lib.hid hl
    clear hLen hlen hS hS1 hl
    by_cases hlt : k < Z
    · have hn0 : ¬ (((N : Int) + 1 + k) % 64 = 56) := by have := HZ2.out k hlt; omega
      have hne : (((N : Int) + 1 + k) % 64 != 56) = true := by simpa using hn0
      clear hn0
      go_wp2_with fail
      refine HLen.out.mono ?_
      rintro e w4 ⟨rfl, rfl⟩
      go_wp2_with fail
      refine (bbyte_any _ _ _ _ _ h4 (by rw [HLN.out]; omega) z).mono ?_
      rintro e w5 ⟨rfl, h5, hb5⟩
      have h5' : Bld w5 w.heap.size w.heap.size (Lib.byteCells (S ++ [0])) := by rw [← bcells_snoc]; exact h5
      have HM5 := Lib.hid (bldLen_of h5')
      clear h5
      go_wp2_with fail
      refine ⟨⟨k + 1, by omega, by rw [HS1.out]; exact h5', hb.trans hb5⟩, ?_⟩
      rw [HM5.out, HM.out, HLN.out, bcells_len, List.length_append, HL.out]
      simp
      omega
    · obtain rfl : k = Z := by omega
      have hn0 : ((N : Int) + 1 + k) % 64 = 56 := by have := HZ1.out; omega
      have hne : (((N : Int) + 1 + k) % 64 != 56) = false := by simp [hn0]
      clear hn0
      go_wp2_with fail
      refine HLen.out.mono ?_
      rintro e w4 ⟨rfl, rfl⟩
      have hz := HZ.out
      have hl8 : ∀ i, (topB (8 * N) i).length = i := topB_len _
      have HL8 := Lib.hid hl8
      clear hl8
      go_wp2_with fail
      clear hz
      go_loopw [22] (fun iv wr => ∃ i : Nat, i ≤ 8 ∧ iv = .int .i64 i ∧ Bld wr w.heap.size w.heap.size (Lib.byteCells (S ++ topB (8 * N) i)) ∧ Below w.heap.size w wr) (fun iv _ => 8 - (intOf iv).toNat)
      case atStart => exact ⟨0, Nat.zero_le _, rfl, by simpa [topB] using h4, hb⟩
      case round =>
        obtain ⟨i, hi, rfl, h6, hb6⟩ := hrel
        have z6 := hb6.size
        have HL6 : Hid ((Lib.byteCells (S ++ topB (8 * N) i)).length = N + 1 + k + i) := Lib.hid (by rw [bcells_len, List.length_append, HL.out, HL8.out])
        by_cases hlt : i < 8
        · have ht : (8 * (7 - (i : Int))).toNat = 8 * (7 - i) := by omega
          have hv : ((N : Int) * 8 / 2 ^ (8 * (7 - i)) % 256) = ((UInt8.ofNat (8 * N / 2 ^ (8 * (7 - i)) % 256)).toNat : Int) := by
            have e : (UInt8.ofNat (8 * N / 2 ^ (8 * (7 - i)) % 256)).toNat = 8 * N / 2 ^ (8 * (7 - i)) % 256 := by simp
            rw [e, Nat.mul_comm 8 N]
            simp
          have HV := Lib.hid hv
          clear hv
          go_wp2_with fail
          refine (bbyte_any _ _ _ _ _ h6 (by rw [HL6.out]; omega) z6).mono ?_
          rintro e w7 ⟨rfl, h7, hb7⟩
          have h7' : Bld w7 w.heap.size w.heap.size (Lib.byteCells (S ++ topB (8 * N) (i + 1))) := by
            rw [topB_succ, ← List.append_assoc, ← bcells_snoc, ← HV.out]
            exact h7
          clear h7
          go_wp2_with fail
          exact ⟨⟨i + 1, by omega, by go_num, h7', hb6.trans hb7⟩, by simp [intOf]; omega⟩
        · obtain rfl : i = 8 := by omega
          go_wp2_with fail
          refine (btext_any _ _ _ _ h6 z6).mono ?_
          rintro e w7 ⟨rfl, hb7⟩
          go_wp2_with fail
          go_ret
          refine ⟨?_, hb6.trans hb7⟩
          rw [HP.out, HS.out]
          rfl
end Go.Proofs.Ytilcondnpoinkaa
