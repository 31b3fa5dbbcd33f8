/- The contract of mac's fitted. -/
import Derived.Test.YtilcondnpoinkaaMMath
import Derived.Test.YtilcondnpoinkaaHSumC
import Derived.Lib.BufferWrite
import Derived.Deep.CutRange
namespace Go.Proofs.Ytilcondnpoinkaa
open Go.RowKit

/-- The cells of 64 bytes, of which those ahead are D, and the others 0. -/
def frow (D : List UInt8) : Array Value := (Lib.byteCells (D ++ List.replicate (64 - D.length) 0)).toArray
theorem frow_size (D : List UInt8) (h : D.length ≤ 64) : (frow D).size = 64 := by simp [frow, Lib.byteCells]; omega
theorem frow_lit : frow [] = #[.int .u8 0, .int .u8 0, .int .u8 0, .int .u8 0, .int .u8 0, .int .u8 0, .int .u8 0, .int .u8 0, .int .u8 0, .int .u8 0, .int .u8 0, .int .u8 0, .int .u8 0, .int .u8 0, .int .u8 0, .int .u8 0, .int .u8 0, .int .u8 0, .int .u8 0, .int .u8 0, .int .u8 0, .int .u8 0, .int .u8 0, .int .u8 0, .int .u8 0, .int .u8 0, .int .u8 0, .int .u8 0, .int .u8 0, .int .u8 0, .int .u8 0, .int .u8 0, .int .u8 0, .int .u8 0, .int .u8 0, .int .u8 0, .int .u8 0, .int .u8 0, .int .u8 0, .int .u8 0, .int .u8 0, .int .u8 0, .int .u8 0, .int .u8 0, .int .u8 0, .int .u8 0, .int .u8 0, .int .u8 0, .int .u8 0, .int .u8 0, .int .u8 0, .int .u8 0, .int .u8 0, .int .u8 0, .int .u8 0, .int .u8 0, .int .u8 0, .int .u8 0, .int .u8 0, .int .u8 0, .int .u8 0, .int .u8 0, .int .u8 0, .int .u8 0] := rfl
theorem bytes_one (L : List UInt8) : ∀ v ∈ Lib.byteCells L, v.oneCell' = true := by
  intro v hv
  obtain ⟨x, _, rfl⟩ := List.mem_map.1 hv
  rfl
theorem splice_gen (h : List UInt8) (N : Nat) : ((Lib.byteCells (List.replicate N 0)).take 0 ++ Lib.byteCells h ++ (Lib.byteCells (List.replicate N 0)).drop (0 + h.length)).toArray = (Lib.byteCells (h ++ List.replicate (N - h.length) 0)).toArray := by
  simp [Lib.byteCells]
theorem frow_splice (h : List UInt8) : ((frow []).toList.take 0 ++ Lib.byteCells h ++ (frow []).toList.drop (0 + h.length)).toArray = frow h := splice_gen h 64
theorem setRow_else (W : World) (g : Nat) (cells : Array Value) (k : Nat) (h : k ≠ g) : (W.setRow g cells).heap[k]? = W.heap[k]? := by
  unfold World.setRow
  simp [Array.getElem?_modify, Ne.symm h]
theorem setRow_same (W : World) (g : Nat) (cells cur : Array Value) (t : TypeId) (h : Blk W g t cur) : Blk (W.setRow g cells) g t cells := by
  unfold Blk at h ⊢
  unfold World.setRow
  simp [Array.getElem?_modify, h]

set_option maxRecDepth 100000 in
set_option maxHeartbeats 2000000 in
theorem fitted_any (key : List UInt8) (w : World) (hk : key.length ≤ 60000) :
    Calls Try.prog 36 #[.string ⟨key.toArray⟩] w fun e w' => e = .returned (.agg (Lib.byteCells (fitL key)).toArray) ∧ Below w.heap.size w w' := by
  have hz := size_of key
  have HR := Lib.hid (fun W => sum_any key W (by omega))
  have HF : Hid (fitL key = headL key ++ List.replicate (64 - (headL key).length) 0) := Lib.hid rfl
  have HH : Hid ((key.length ≤ 64 → headL key = key) ∧ (¬ key.length ≤ 64 → headL key = sumL key)) := Lib.hid ⟨fun h => by unfold headL; rw [if_pos h], fun h => by unfold headL; rw [if_neg h]⟩
  have HL := Lib.hid (headL_len key)
  have HFL : Hid ((Lib.byteCells (fitL key)).length = 64) := Lib.hid (by simp [Lib.byteCells, fitL_len])
  have HONE := Lib.hid (bytes_one (fitL key))
  have HFR : Hid (frow (headL key) = (Lib.byteCells (fitL key)).toArray) := Lib.hid rfl
  obtain ⟨n, hn⟩ : ∃ n, key.length = n := ⟨_, rfl⟩
  rw [hn] at hz hk HH
  generalize Lib.byteCells (fitL key) = F at HFL HONE HFR ⊢
  generalize headL key = h at HF HH HL HFR
  generalize sumL key = S at HR HH
  clear HF
  have h0 := Blk.new w 58 (frow [])
  have B0 := Lib.hid h0
  clear hn h0
  go_enter Try.func36, Try.ntmps36
  go_upto_if 6 with fail
  go_cut [0] from 4 to 8 (fun s0 wx => s0 = .string ⟨h.toArray⟩ ∧ Hid (Blk wx w.heap.size 58 (frow [])) ∧ Below w.heap.size w wx)
  case first =>
    by_cases hle : n ≤ 64
    · have hh := HH.out.1 hle
      have hi : ¬ (64 : Int) < (n : Int) := by omega
      go_wp2_with fail
      go_meet
      exact ⟨by rw [hh], B0, ba (Below.refl _ _) _⟩
    · have hh := HH.out.2 hle
      have hi : (64 : Int) < (n : Int) := by omega
      go_wp2_with fail
      refine (HR.out _).mono ?_
      rintro e w1 ⟨rfl, hb1⟩
      go_wp2_with fail
      go_meet
      exact ⟨by rw [hh], Lib.hid (B0.out.below hb1), bt (ba (Below.refl _ _) _) hb1⟩
  case rest =>
    obtain ⟨rfl, BC, hbc⟩ := hcut
    clear hz B0
    have z1 := hbc.size
    have hn1 := BC.out.lt
    have hal := Blk.new wc 58 (frow [])
    have hsz := size_of h
    have hcp := Lib.run_copy_row_string (P := Try.prog) (wc.alloc (.cells (frow []) 58)) 60 9 3 5 wc.heap.size 0 64 64 ⟨h.toArray⟩ (frow []) 58 Try.underlying60 (by kernel_rfl) hal (by rw [hsz]; exact HL.out) (by rw [hsz, frow_size _ (by simp)]; have := HL.out; omega)
    rw [hsz, frow_splice h, HFR.out] at hcp
    have H1 := Lib.hid (setRow_same _ _ F.toArray _ _ hal)
    have H0 : Hid (Blk ((wc.alloc (.cells (frow []) 58)).setRow wc.heap.size F.toArray) w.heap.size 58 (frow [])) := Lib.hid ((setRow_else _ _ _ _ (by omega)).trans (BC.out.alloc _))
    have HB : Hid (Below w.heap.size w ((wc.alloc (.cells (frow []) 58)).setRow wc.heap.size F.toArray)) := Lib.hid (Below.trans (ba hbc _) ⟨rfl, rfl, rfl, by simp [World.setRow], fun k hk => setRow_else _ _ _ _ (by omega)⟩)
    have HS0 := Lib.hid (frow_size [] (by simp))
    clear hal
    generalize (wc.alloc (.cells (frow []) 58)).setRow wc.heap.size F.toArray = w2 at hcp H1 H0 HB
    rw [frow_lit] at hcp
    go_wp2_with (first | (refine wpList_load_row rfl _ _ rfl _ rfl _ _ _ _ H1.out Try.underlying58 rfl (by rw [List.size_toArray, HFL.out]; kernel_rfl) ?_) | (refine wpList_store_mid rfl _ _ _ rfl _ _ F.toArray rfl rfl (H0.out.there (by rw [List.size_toArray, HFL.out, HS0.out]; exact Nat.le_refl _)) (by rw [List.size_toArray, HFL.out]; kernel_rfl) (all_oneCell_toArray HONE.out) ?_))
    have hW := H0.out.whole F (by rw [HFL.out, HS0.out])
    refine bodyPost_ret (v := .agg F.toArray) (results_cell_row rfl _ _ _ _ _ _ _ rfl hW Try.underlying58 rfl (by rw [List.size_toArray, HFL.out]; kernel_rfl)) rfl ⟨rfl, bw HB.out (Nat.le_refl _) _ _⟩
end Go.Proofs.Ytilcondnpoinkaa
