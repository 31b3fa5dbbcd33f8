/- The contract of Boxes. -/
import Derived.Test.YtodolffolbkaaaaFRefP
import Derived.Test.YtodolffolbkaaaaFTab2
import Derived.Laws.MakeOwn
namespace Go.Proofs.Ytodolffolbkaaaa
open Go.RowKit

theorem info5 : (Try.prog.info? 5).map (fun i => (i.zero, i.size, i.bytes)) = some (some (.int .u8 0), 1, 1) := by kernel_rfl
def zeroRow : Array Value := ((List.replicate 256 0).map bv).toArray
theorem zeroRow_size : zeroRow.size = 256 := by simp [zeroRow, -List.reduceReplicate]
theorem zeroRow_at : zeroRow[0]? = some (bv 0) := by kernel_rfl
theorem made_zero : madeCells (Value.int .u8 0).cells (256 * 1) = zeroRow := by
  apply Array.ext
  · rw [size_madeCells, zeroRow_size]
  · intro i h1 h2
    simp [madeCells, zeroRow, Value.cells, bv, Nat.mod_one, -List.reduceReplicate]
theorem make256 (W : World) : (Instr.makeSlice 40 (.int .i64 256) (.int .i64 256)).run Try.prog W = .ok (.slice (some ⟨W.heap.size, 0, none⟩) 256 256) (W.alloc (.cells zeroRow 5)) := by
  obtain ⟨i0, hi, hz0, hz1, hz2⟩ := info_parts info5
  have h := run_makeSlice (P := Try.prog) W 40 5 i0 (.int .u8 0) Try.underlying40 hi hz0 .i64 .i64 256 256 (by omega) (by omega) (by rw [hz1]; decide) (by rw [hz2]; decide) (by omega)
  rw [hz1] at h
  have e2 : ((256 : Int).toNat * 1) = 256 * 1 := rfl
  rw [e2, made_zero] at h
  exact h

set_option maxRecDepth 100000 in
set_option maxHeartbeats 4000000 in
theorem boxes_any (w : World) :
    Calls Try.prog 25 #[] w fun e w' => ∃ g, e = .returned (.slice (some ⟨g, 0, none⟩) 256 256) ∧ w.heap.size ≤ g ∧ Blk w' g 5 (boxT.map bv).toArray ∧ Below w.heap.size w w' := by
  have hmk := make256 w
  have HZ := Lib.hid zeroRow_at
  have HS : Hid (zeroRow.setIfInBounds 0 (bv 99) = boxRow 0) := Lib.hid boxRow_zero.symm
  have HA := Lib.hid boxRow_all
  have B0 : Hid (boxI 0 = 99) := Lib.hid (by decide +kernel)
  obtain ⟨Z, hZ⟩ : ∃ Z, zeroRow = Z := ⟨_, rfl⟩
  rw [hZ] at hmk HZ HS
  clear hZ
  go_enter Try.func25, Try.ntmps25
  go_wp2_with fail
  refine (boxOf_any 0 _ (by omega)).mono ?_
  rw [B0.out]
  rintro e w1 ⟨rfl, rfl⟩
  have hB := Blk.new w 5 Z
  have hb : Below w.heap.size w (w.alloc (.cells Z 5)) := ba (Below.refl _ _) _
  generalize w.alloc (.cells Z 5) = w1 at hB hb
  have hc := (hB.cell 0).trans HZ.out
  have hf := hB.frozen 0
  have HB := Lib.hid hB
  clear hB
  go_wp2_with fail
  have HB2 := Lib.hid (HB.out.set_ 0 (bv 99))
  have hb2 := bs hb (Nat.le_refl _) (bv 99) (o := 0)
  rw [HS.out] at HB2
  clear hc hf HB hb hmk
  have e1 : w1.setCell ⟨w.heap.size, 0, none⟩ (.int .u8 99) = w1.setCell ⟨w.heap.size, 0, none⟩ (bv 99) := rfl
  rw [e1]
  generalize w1.setCell ⟨w.heap.size, 0, none⟩ (bv 99) = w2 at HB2 hb2
  clear e1 w1
  have HI : Hid (inv 3 = 246) := Lib.hid inv3
  refine (inv_any 3 _ (by omega)).mono ?_
  rw [HI.out]
  rintro e w3 ⟨rfl, rfl⟩
  go_wp2_with fail
  go_loopw [2, 3, 10] (fun pv iv kv wr => ∃ k p i : Nat, k ≤ 255 ∧ pv = .int .u8 (p : Int) ∧ iv = .int .u8 (i : Int) ∧ kv = .int .i64 (k : Int) ∧ Hid (P3 k = p) ∧ Hid (I3 k = i) ∧ Blk wr w.heap.size 5 (boxRow k) ∧ Below w.heap.size w wr) (fun _ _ kv _ => 255 - (intOf kv).toNat)
  case atStart => exact ⟨0, 1, 1, by omega, rfl, rfl, rfl, Lib.hid rfl, Lib.hid rfl, HB2.out, hb2⟩
  case round =>
    clear HB2 hb2
    obtain ⟨k, p, i, hk, rfl, rfl, rfl, HP, HI, hB, hb⟩ := hrel
    by_cases hlt : k < 255
    · obtain ⟨a1, a2, a3, a4, a5, -, -⟩ := pow_all k hlt
      have hset := boxRow_set k hlt
      have hold := boxRow_at k (P3 k) a4
      rw [HP.out] at a1 a3 a4 hset hold
      rw [HI.out] at a2 a3 a5
      have hc := (hB.cell p).trans hold
      have hf := hB.frozen p
      have HO := Lib.hid (boxOf_any i wr (by omega))
      rw [a3] at HO
      have HB := Lib.hid hB
      have HS2 := Lib.hid hset
      have H1 := Lib.hid a1.symm
      have H2 := Lib.hid a2.symm
      clear hB hold hset a1 a2 a3
      obtain ⟨x, hx⟩ : ∃ x, box p = x := ⟨_, rfl⟩
      rw [hx] at HO HS2
      clear hx
      go_wp2_with fail
      refine HO.out.mono ?_
      rintro e w1 ⟨rfl, rfl⟩
      go_wp2_with fail
      have HB2 := Lib.hid (HB.out.set_ p (bv x))
      have hb2 := bs hb (Nat.le_refl _) (bv x) (o := p)
      rw [HS2.out] at HB2
      clear hc hf HB hb
      have e1 : wr.setCell ⟨w.heap.size, p, none⟩ (.int .u8 (x : Int)) = wr.setCell ⟨w.heap.size, p, none⟩ (bv x) := rfl
      rw [e1]
      generalize wr.setCell ⟨w.heap.size, p, none⟩ (bv x) = w2 at HB2 hb2
      clear e1 HO HS2
      have HM1 := Lib.hid (mul_any p 3 w2 (by omega) (by omega))
      have HM2 := Lib.hid (mul_any i 246 w2 (by omega) (by omega))
      rw [← H1.out] at HM1
      rw [← H2.out] at HM2
      obtain ⟨p2, hp2⟩ : ∃ p2, P3 (k + 1) = p2 := ⟨_, rfl⟩
      obtain ⟨i2, hi2⟩ : ∃ i2, I3 (k + 1) = i2 := ⟨_, rfl⟩
      rw [hp2] at HM1
      rw [hi2] at HM2
      have HP2 := Lib.hid hp2
      have HI2 := Lib.hid hi2
      clear hp2 hi2 H1 H2
      refine HM1.out.mono ?_
      rintro e w3 ⟨rfl, rfl⟩
      go_wp2_with fail
      refine HM2.out.mono ?_
      rintro e w3 ⟨rfl, rfl⟩
      go_wp2_with fail
      go_roundw
      case rel => exact ⟨k + 1, p2, i2, by omega, rfl, rfl, by go_num, HP2, HI2, HB2.out, hb2⟩
      case measure => simp [intOf]; omega
    · obtain rfl : k = 255 := by omega
      rw [HA.out] at hB
      have HB := Lib.hid hB
      clear hB
      go_wp2_with fail
      go_ret
      exact ⟨_, rfl, Nat.le_refl _, HB.out, hb⟩
end Go.Proofs.Ytodolffolbkaaaa
