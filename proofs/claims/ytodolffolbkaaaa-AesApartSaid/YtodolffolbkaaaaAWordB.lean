/- The contracts of a word's boxed, and of wordOf. -/
import Derived.Test.YtodolffolbkaaaaAWord
import Derived.Test.YtodolffolbkaaaaACopy
namespace Go.Proofs.Ytodolffolbkaaaa
open Go.RowKit

def bxs : Array Value := (boxT.map bv).toArray
theorem bxs_at (b : UInt8) : bxs[b.toNat]? = some (uv (box8 b)) := boxT_at b

set_option maxRecDepth 100000 in
set_option maxHeartbeats 1000000 in
theorem boxed_any (a b c d : UInt8) (gb : Nat) (w : World) (hx : Blk w gb 5 bxs) :
    Calls Try.prog 45 #[.agg #[uv a, uv b, uv c, uv d], .slice (some ⟨gb, 0, none⟩) 256 256] w fun e w' => e = .returned (.agg ((boxW [a, b, c, d]).map uv).toArray) ∧ Below w.heap.size w w' := by
  have HI := Lib.hid (agg4_at a b c d)
  have HA : Hid ([a, b, c, d].length = 4) := Lib.hid rfl
  have HN : Hid ((boxW [a, b, c, d]).length = 4) := Lib.hid (tab_len _ _)
  have HU : Hid (∀ k, k < 4 → ub (boxW [a, b, c, d]) k = box8 (ub [a, b, c, d] k)) := Lib.hid fun k hk => ub_tab _ hk
  obtain ⟨N, hN⟩ : ∃ N, boxW [a, b, c, d] = N := ⟨_, rfl⟩
  rw [hN] at HN HU ⊢
  have H0 : Hid (((cutL 0 N [a, b, c, d]).map uv).toArray = #[uv a, uv b, uv c, uv d]) := Lib.hid (by rw [cutL_zero]; rfl)
  obtain ⟨A, hA'⟩ : ∃ A, [a, b, c, d] = A := ⟨_, rfl⟩
  rw [hA'] at HA HU H0 HI
  clear hN hA'
  have HX := Lib.hid hx
  have HXA := Lib.hid bxs_at
  obtain ⟨X, hX⟩ : ∃ X, bxs = X := ⟨_, rfl⟩
  rw [hX] at HX HXA
  have hgb := hx.lt
  clear hx hX
  go_enter Try.func45, Try.ntmps45
  go_wp2_with fail
  go_loopw [8] (fun iv wr => ∃ k : Nat, k ≤ 4 ∧ iv = .int .i64 k ∧ Hid (Blk wr w.heap.size 43 ((cutL k N A).map uv).toArray) ∧ Hid (Blk wr (w.heap.size + 1) 43 #[uv 0, uv 0, uv 0, uv 0]) ∧ Below w.heap.size w wr) (fun iv _ => 4 - (intOf iv).toNat)
  case atStart =>
    refine ⟨0, by omega, rfl, Lib.hid ?_, Lib.hid ?_, ba (ba (Below.refl _ _) _) _⟩
    · rw [H0.out]; exact (Blk.new w _ _).alloc _
    · exact Blk.newAt (by simp) _ _
  case round =>
    obtain ⟨k, hk, rfl, P, Z, hb⟩ := hrel
    by_cases hlt : k < 4
    · have hix := HI.out k hlt
      have hf := P.out.frozen k
      have hset := cutL_set HN.out HA.out hlt
      rw [HU.out k hlt] at hset
      have hc := (P.out.cell k).trans (row_at (by rw [cutL_len HN.out HA.out hk]; exact hlt))
      generalize ub A k = x at hix hset
      have hbx := ((HX.out.below hb).cell x.toNat).trans (HXA.out x)
      have hx8 := x.toNat_lt
      generalize box8 x = z at hbx hset
      have HS := Lib.hid hset
      have i0 : (0 : Int) ≤ (k : Int) := by omega
      have i1 : (k : Int) < 4 := by omega
      clear hset
      go_wp2
      exact ⟨⟨k + 1, by omega, by go_num, Lib.hid (by have := P.out.set_ k (uv z); rw [HS.out] at this; exact this), Lib.hid (Z.out.far (by simp) _), bs hb (by omega) _⟩, by simp [intOf]; omega⟩
    · obtain rfl : k = 4 := by omega
      have hP := P.out
      rw [cutL_all HN.out HA.out] at hP
      have HONE := Lib.hid (uvs_one N)
      have HZ := HN.out
      go_wp2_with (first | (refine wpList_load_row rfl _ _ rfl _ rfl _ _ _ _ hP Try.underlying43 rfl (wlen HN.out) ?_) | (refine wpList_store_mid rfl _ _ _ rfl _ _ (N.map uv).toArray rfl rfl (Z.out.there (by rw [List.size_toArray, List.length_map, HN.out]; exact Nat.le_refl 4)) (wlen HN.out) (all_oneCell_toArray HONE.out) ?_))
      have hW := Z.out.whole (N.map uv) (by rw [List.length_map, HN.out]; rfl)
      refine bodyPost_ret (v := .agg (N.map uv).toArray) (results_cell_row rfl _ _ _ _ _ _ _ rfl hW Try.underlying43 rfl (wlen HN.out)) rfl ?_
      exact ⟨rfl, bw hb (by omega) _ _⟩

set_option maxRecDepth 100000 in
set_option maxHeartbeats 1000000 in
theorem wordOf_any (l : List UInt8) (w : World) (hl : 4 ≤ l.length) :
    Calls Try.prog 50 #[.string ⟨l.toArray⟩] w fun e w' => e = .returned (.agg #[uv (ub l 0), uv (ub l 1), uv (ub l 2), uv (ub l 3)]) ∧ Below w.heap.size w w' := by
  have hB : Blk ((w.alloc (.cells #[.int .u8 0, .int .u8 0, .int .u8 0, .int .u8 0] 43)).alloc (.cells #[.int .u8 0, .int .u8 0, .int .u8 0, .int .u8 0] 43)) (w.heap.size + 1) 43 #[.int .u8 0, .int .u8 0, .int .u8 0, .int .u8 0] := Blk.newAt (by simp) _ _
  have hR : Blk ((w.alloc (.cells #[.int .u8 0, .int .u8 0, .int .u8 0, .int .u8 0] 43)).alloc (.cells #[.int .u8 0, .int .u8 0, .int .u8 0, .int .u8 0] 43)) w.heap.size 43 #[.int .u8 0, .int .u8 0, .int .u8 0, .int .u8 0] := (Blk.new w _ _).alloc _
  have hcp := copy_text _ _ 4 l _ _ hB hl rfl
  have hbb : Below w.heap.size w ((w.alloc (.cells #[.int .u8 0, .int .u8 0, .int .u8 0, .int .u8 0] 43)).alloc (.cells #[.int .u8 0, .int .u8 0, .int .u8 0, .int .u8 0] 43)) := ba (ba (Below.refl _ _) _) _
  have htk : l.take 4 = [ub l 0, ub l 1, ub l 2, ub l 3] := list_ext (n := 4) (by rw [List.length_take]; omega) rfl (fun i hi => by
    rw [ub_at (by rw [List.length_take]; omega), List.getElem_take, ← ub_at]
    obtain rfl | rfl | rfl | rfl : i = 0 ∨ i = 1 ∨ i = 2 ∨ i = 3 := by omega
    all_goals rfl)
  rw [htk] at hcp
  generalize ub l 0 = a at hcp ⊢
  generalize ub l 1 = b at hcp ⊢
  generalize ub l 2 = c at hcp ⊢
  generalize ub l 3 = d at hcp ⊢
  have hB2 := hB.setRow ([a, b, c, d].map uv).toArray
  have hR2 := hR.setRow_far (k := w.heap.size) (g := w.heap.size + 1) (by omega) ([a, b, c, d].map uv).toArray
  have hbb2 := below_setRow hbb (g := w.heap.size + 1) (by omega) ([a, b, c, d].map uv).toArray
  obtain ⟨w2, hw2⟩ : ∃ w2, World.setRow ((w.alloc (.cells #[.int .u8 0, .int .u8 0, .int .u8 0, .int .u8 0] 43)).alloc (.cells #[.int .u8 0, .int .u8 0, .int .u8 0, .int .u8 0] 43)) (w.heap.size + 1) ([a, b, c, d].map uv).toArray = w2 := ⟨_, rfl⟩
  rw [hw2] at hcp hB2 hR2 hbb2
  have HB := Lib.hid hB2
  have HR := Lib.hid hR2
  clear hw2 hB hR hbb htk hB2 hR2
  go_enter Try.func50, Try.ntmps50
  go_wp2_with (first | (refine wpList_load_row rfl _ _ rfl _ rfl _ _ _ _ HB.out Try.underlying43 rfl (by kernel_rfl) ?_) | (refine wpList_store_mid rfl _ _ _ rfl _ _ ([a, b, c, d].map uv).toArray rfl rfl (HR.out.there (by simp)) (by kernel_rfl) (all_oneCell_toArray (uvs_one _)) ?_))
  have hW := HR.out.whole ([a, b, c, d].map uv) rfl
  refine bodyPost_ret (v := .agg ([a, b, c, d].map uv).toArray) (results_cell_row rfl _ _ _ _ _ _ _ rfl hW Try.underlying43 rfl (by kernel_rfl)) rfl ?_
  exact ⟨rfl, bw hbb2 (by omega) _ _⟩
end Go.Proofs.Ytodolffolbkaaaa
