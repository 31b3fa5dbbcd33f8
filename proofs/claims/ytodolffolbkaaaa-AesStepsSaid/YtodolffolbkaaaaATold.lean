/- The contract of a grid's told: its bytes as a text. -/
import Derived.Test.YtodolffolbkaaaaAGridM
namespace Go.Proofs.Ytodolffolbkaaaa
open Go.RowKit

theorem text_of {W : World} {g n c : Nat} {t : TypeId} {L : List UInt8} (h : Blk W g t (L.map uv).toArray) (hl : L.length = n) : (convert 40 9 (.slice (some ⟨g, 0, none⟩) n c)).run Try.prog W = .ok (.string ⟨L.toArray⟩) W := by
  subst hl
  refine run_convert_bytes_back (P := Try.prog) W 40 9 5 ⟨g, 0, none⟩ c L Try.underlying40 Try.underlying5 Try.underlying9 (fun j hj => ?_)
  rw [Addr.add_mid, Nat.zero_add, h.cell]
  have : j < L.length := by simpa using hj
  simp [this]
theorem make_bytes (n m : Nat) (hn : n ≤ m) (hm : m ≤ 65536) (W : World) : (Instr.makeSlice 40 (.int .i64 (n : Int)) (.int .i64 (m : Int))).run Try.prog W = .ok (.slice (some ⟨W.heap.size, 0, none⟩) n m) (W.alloc (.cells ((zerosL (m * 1)).map uv).toArray 5)) := by
  obtain ⟨i0, hi, hz0, hz1, hz2⟩ := info_parts info5
  have h := run_makeSlice (P := Try.prog) W 40 5 i0 (.int .u8 0) Try.underlying40 hi hz0 .i64 .i64 n m (by omega) (by omega) (by rw [hz1]; omega) (by rw [hz2]; omega) (by omega)
  rw [hz1, made_zeros _ 1 _ rfl (by omega) (fun i hi => by
    obtain rfl : i = 0 := by omega
    rfl)] at h
  exact h

set_option maxRecDepth 100000 in
set_option maxHeartbeats 2000000 in
theorem told_any (G : List UInt8) (w : World) (hG : G.length = 16) :
    Calls Try.prog 26 #[.agg (G.map uv).toArray] w fun e w' => e = .returned (.string ⟨G.toArray⟩) ∧ Below w.heap.size w w' := by
  obtain ⟨i0, hi, hz0, hz1, hz2⟩ := info_parts info5
  have HG := Lib.hid hG
  have HZ := Lib.hid (zerosL_len 16)
  have hmk : ∀ W : World, (Instr.makeSlice 40 (.int .i64 0) (.int .i64 16)).run Try.prog W = .ok (.slice (some ⟨W.heap.size, 0, none⟩) 0 16) (W.alloc (.cells ((zerosL 16).map uv).toArray 5)) := make_bytes 0 16 (by omega) (by omega)
  have HI := Lib.hid (gcol_at G hG)
  have H0 : Hid (((zerosL 16).map uv).toArray = ((cutL (0 * 4) G (zerosL 16)).map uv).toArray) := Lib.hid (by rw [Nat.zero_mul, cutL_zero])
  obtain ⟨Z, hZ⟩ : ∃ Z, zerosL 16 = Z := ⟨_, rfl⟩
  rw [hZ] at HZ hmk H0
  clear hZ hG
  have B0 := Lib.hid ((Blk.new w 45 (G.map uv).toArray).alloc (.cells (Z.map uv).toArray 5))
  have Z0 : Hid (Blk ((w.alloc (.cells (G.map uv).toArray 45)).alloc (.cells (Z.map uv).toArray 5)) (w.heap.size + 1) 5 (Z.map uv).toArray) := Lib.hid (Blk.newAt (by simp) _ _)
  have hb0 := ba (ba (Below.refl w.heap.size w) (.cells (G.map uv).toArray 45)) (.cells (Z.map uv).toArray 5)
  have hmk1 := hmk (w.alloc (.cells (G.map uv).toArray 45))
  have hsz1 : (w.alloc (.cells (G.map uv).toArray 45)).heap.size = w.heap.size + 1 := by simp
  rw [hsz1] at hmk1
  generalize (w.alloc (.cells (G.map uv).toArray 45)).alloc (.cells (Z.map uv).toArray 5) = w1 at B0 Z0 hb0 hmk1
  rw [H0.out] at Z0
  clear hmk hsz1
  go_enter Try.func26, Try.ntmps26
  go_wp2_with (refine wpList_load_row rfl _ _ rfl _ rfl _ _ _ _ B0.out Try.underlying45 rfl (glen HG.out) ?_)
  go_loopw [3, 8] (fun ov iv wr => ∃ i : Nat, i ≤ 4 ∧ iv = .int .i64 i ∧ ov = .slice (some ⟨w.heap.size + 1, 0, none⟩) (i * 4) 16 ∧ Hid (Blk wr (w.heap.size + 1) 5 ((cutL (i * 4) G Z).map uv).toArray) ∧ Below w.heap.size w wr) (fun _ iv _ => 4 - (intOf iv).toNat)
  case atStart => exact ⟨0, Nat.zero_le _, rfl, rfl, Z0, hb0⟩
  case round =>
    clear Z0 B0 hb0 hmk1
    obtain ⟨c, hc, rfl, rfl, B, hb⟩ := hrel
    by_cases hlt : c < 4
    · have hcl : (c : Int) < 4 := by omega
      have c0 : (0 : Int) ≤ (c : Int) := by omega
      have hix := HI.out c hlt
      have HP := Lib.hid (fun (W : World) (t : TypeId) (hB : Blk W (w.heap.size + 1) t ((cutL (c * 4) G Z).map uv).toArray) => put4 hB HG.out HZ.out (by omega))
      have HSP := Lib.hid (fun (W : World) (t : TypeId) (hB : Blk W (w.heap.size + 1) t ((cutL (c * 4) G Z).map uv).toArray) => hB.spare (o := c * 4) (n := 4) (by rw [uvs_size, cutL_len HG.out HZ.out (by omega)]; omega))
      have HSE : Hid (c * 4 + 4 = (c + 1) * 4) := Lib.hid (by omega)
      generalize ub G (c * 4) = n0 at hix HP
      generalize ub G (c * 4 + 1) = n1 at hix HP
      generalize ub G (c * 4 + 2) = n2 at hix HP
      generalize ub G (c * 4 + 3) = n3 at hix HP
      have HNW := Lib.hid (news_new wr [uv n0, uv n1, uv n2, uv n3] 43)
      have HB2 := Lib.hid (B.out.alloc (.cells #[uv n0, uv n1, uv n2, uv n3] 43))
      have hb2 := ba hb (.cells #[uv n0, uv n1, uv n2, uv n3] 43)
      have HB3 := Lib.hid (HP.out _ _ HB2.out)
      have hb3 := bw hb2 (g := w.heap.size + 1) (by omega) (c * 4) [uv n0, uv n1, uv n2, uv n3]
      have hc16 : c * 4 + 4 ≤ 16 := by omega
      rw [HSE.out] at HB3
      clear hb B hc
      go_upto_region 6 with (at_builtin; refine wpList_append_room rfl (.tmp 11) (.tmp 12) 40 rfl 5 i0 1 Try.underlying40 hi hz1 (w.heap.size + 1) 0 (c * 4) 16 rfl ⟨wr.heap.size, 0, none⟩ 4 4 [uv n0, uv n1, uv n2, uv n3] rfl rfl HNW.out (uvs_one [n0, n1, n2, n3]) hc16 (by rw [Nat.zero_add, Nat.mul_one]; exact HSP.out _ _ HB2.out) ?_)
      generalize (wr.alloc (.cells #[uv n0, uv n1, uv n2, uv n3] 43)).setCells (w.heap.size + 1) (c * 4) [uv n0, uv n1, uv n2, uv n3] = w3 at HB3 hb3
      clear HB2 HSP HP HNW hb2 hix
      go_wp2_with fail
      exact ⟨⟨c + 1, by omega, by go_num, by rw [HSE.out], HB3, hb3⟩, by simp [intOf]; omega⟩
    · obtain rfl : c = 4 := by omega
      have hB := B.out
      rw [show 4 * 4 = 16 from rfl, cutL_all HG.out HZ.out] at hB
      have hcv := text_of (n := 16) (c := 16) hB HG.out
      have HBN := Lib.hid hB
      clear hB B
      go_wp2
      go_ret
      exact ⟨rfl, hb⟩
end Go.Proofs.Ytodolffolbkaaaa
