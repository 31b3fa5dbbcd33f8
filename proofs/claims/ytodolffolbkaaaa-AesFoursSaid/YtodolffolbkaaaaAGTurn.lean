/- The contract of a grid's turned. -/
import Derived.Test.YtodolffolbkaaaaAGridM
namespace Go.Proofs.Ytodolffolbkaaaa
open Go.RowKit

theorem turnG_at (G : List UInt8) (c r : Nat) (hc : c < 4) (hr : r < 4) : ub (turnG G) (c * 4 + r) = ub G ((c + r) % 4 * 4 + r) := by
  unfold turnG
  rw [ub_tab _ (by omega), show (c * 4 + r) / 4 = c by omega, show (c * 4 + r) % 4 = r by omega, Nat.mul_comm]

set_option maxRecDepth 100000 in
set_option maxHeartbeats 4000000 in
theorem gturned_any (G : List UInt8) (rv : Value) (w : World) (hG : G.length = 16) :
    Calls Try.prog 30 #[.agg (G.map uv).toArray, rv] w fun e w' => e = .returned (.agg ((turnG G).map uv).toArray) ∧ Below w.heap.size w w' := by
  have HG := Lib.hid hG
  have HZ := Lib.hid (zerosL_len 16)
  have HGZ := Lib.hid gzero
  have HN : Hid ((turnG G).length = 16) := Lib.hid (tab_len _ _)
  have HU := Lib.hid (turnG_at G)
  obtain ⟨N, hN⟩ : ∃ N, turnG G = N := ⟨_, rfl⟩
  rw [hN] at HN HU ⊢
  obtain ⟨Z, hZ⟩ : ∃ Z, zerosL 16 = Z := ⟨_, rfl⟩
  rw [hZ] at HZ HGZ
  have H0 : Hid ((Z.map uv).toArray = ((cutL (0 * 4) N Z).map uv).toArray) := Lib.hid (by rw [Nat.zero_mul, cutL_zero])
  clear hZ hN hG
  go_enter Try.func30, Try.ntmps30
  go_upto_region 2 with fail
  rw [HGZ.out]
  have B0 := Lib.hid (((Blk.new w 45 (G.map uv).toArray).alloc (.cells (Z.map uv).toArray 45)).alloc (.cells (Z.map uv).toArray 45))
  have Z0 : Hid (Blk (((w.alloc (.cells (G.map uv).toArray 45)).alloc (.cells (Z.map uv).toArray 45)).alloc (.cells (Z.map uv).toArray 45)) (w.heap.size + 1) 45 (Z.map uv).toArray) := Lib.hid ((Blk.newAt (by simp) _ _).alloc _)
  have P0 : Hid (Blk (((w.alloc (.cells (G.map uv).toArray 45)).alloc (.cells (Z.map uv).toArray 45)).alloc (.cells (Z.map uv).toArray 45)) (w.heap.size + 1 + 1) 45 (Z.map uv).toArray) := Lib.hid (Blk.newAt (by simp) _ _)
  have hb0 := ba (ba (ba (Below.refl w.heap.size w) (.cells (G.map uv).toArray 45)) (.cells (Z.map uv).toArray 45)) (.cells (Z.map uv).toArray 45)
  generalize ((w.alloc (.cells (G.map uv).toArray 45)).alloc (.cells (Z.map uv).toArray 45)).alloc (.cells (Z.map uv).toArray 45) = w1 at B0 Z0 P0 hb0
  rw [H0.out] at P0
  go_wp2_with fail
  go_loopw [8] (fun iv wr => ∃ i : Nat, i ≤ 4 ∧ iv = .int .i64 i ∧ Hid (Blk wr w.heap.size 45 (G.map uv).toArray) ∧ Hid (Blk wr (w.heap.size + 1) 45 (Z.map uv).toArray) ∧ Hid (Blk wr (w.heap.size + 1 + 1) 45 ((cutL (i * 4) N Z).map uv).toArray) ∧ Below w.heap.size w wr) (fun iv _ => 4 - (intOf iv).toNat)
  case atStart => exact ⟨0, Nat.zero_le _, rfl, B0, Z0, P0, hb0⟩
  case round =>
    clear Z0 B0 P0 hb0
    obtain ⟨c, hc, rfl, B, Z1, P, hb⟩ := hrel
    by_cases hlt : c < 4
    · have hcl : (c : Int) < 4 := by omega
      have hc0 : (0 : Int) ≤ (c : Int) := by omega
      go_wp2_with fail
      go_loopw [11] (fun rv wx => ∃ r : Nat, r ≤ 4 ∧ rv = .int .i64 r ∧ Hid (Blk wx w.heap.size 45 (G.map uv).toArray) ∧ Hid (Blk wx (w.heap.size + 1) 45 (Z.map uv).toArray) ∧ Hid (Blk wx (w.heap.size + 1 + 1) 45 ((cutL (c * 4 + r) N Z).map uv).toArray) ∧ Below w.heap.size w wx) (fun rv _ => 4 - (intOf rv).toNat)
      case atStart => exact ⟨0, Nat.zero_le _, rfl, B, Z1, P, hb⟩
      case round =>
        clear B Z1 P hb
        obtain ⟨r, hr, rfl, B, Z1, P, hb⟩ := hrel
        by_cases hrl : r < 4
        · have hri : (r : Int) < 4 := by omega
          have hr0 : (0 : Int) ≤ (r : Int) := by omega
          have hu := HU.out c r hlt hrl
          obtain ⟨q, hq⟩ : ∃ q, (c + r) % 4 = q := ⟨_, rfl⟩
          have hqi : ((c : Int) + (r : Int)) % 4 = (q : Int) := by omega
          have hql : (q : Int) < 4 := by omega
          have hq0 : (0 : Int) ≤ (q : Int) := by omega
          rw [hq] at hu
          have hset := cutL_set HN.out HZ.out (show c * 4 + r < 16 by omega)
          have hold := (P.out.cell (c * 4 + r)).trans (row_at (by rw [cutL_len HN.out HZ.out (by omega)]; omega))
          rw [hu] at hset
          have hgat := row_at (L := G) (i := q * 4 + r) (by rw [HG.out]; omega)
          generalize ub G (q * 4 + r) = x at hset hgat
          have HGA := Lib.hid hgat
          have HST := Lib.hid hset
          have HWQ : Hid (IntKind.i64.wrap ((c : Int) + (r : Int)) = (c : Int) + (r : Int) ∧ IntKind.i64.wrap (q : Int) = (q : Int)) := Lib.hid (by constructor <;> (rw [IntKind.wrap_i64]; omega))
          clear hu hq hset hgat
          have HQT : Hid (((c : Int) + (r : Int)).tmod 4 = (q : Int)) := Lib.hid (by rw [Int.tmod_eq_emod_of_nonneg (by omega)]; exact hqi)
          go_wp2_with fail
          have hc1 : wr.drew.cell? ⟨w.heap.size + 1 + 1, c * 4 + r, none⟩ = some (uv (ub (cutL (c * 4 + r) N Z) (c * 4 + r))) := hold
          generalize ub (cutL (c * 4 + r) N Z) (c * 4 + r) = old at hc1
          have hf1 : wr.drew.frozen? ⟨w.heap.size + 1 + 1, c * 4 + r, none⟩ = false := P.out.frozen _
          have B2 := Lib.hid (B.out.far (p := ⟨w.heap.size + 1 + 1, c * 4 + r, none⟩) (by simp; omega) (uv x)).drew
          have Z2 := Lib.hid (Z1.out.far (p := ⟨w.heap.size + 1 + 1, c * 4 + r, none⟩) (by simp) (uv x)).drew
          have hP2 := (P.out.set_ (c * 4 + r) (uv x)).drew
          rw [HST.out] at hP2
          have P2 := Lib.hid hP2
          have hb2 := (bs hb (b := w.heap.size + 1 + 1) (o := c * 4 + r) (by omega) (uv x)).drew
          clear hold hP2 HST
          refine wp_region_held_drew (S := fun W => Blk W w.heap.size 45 (G.map uv).toArray) (by kernel_rfl) B.out.drew (fun hHeld => ?_)
          refine wpAnyH_take (i := 0) (oi := ⟨some 14, _, _, _, _, _⟩) (v := ?_) rfl (by kernel_rfl) (by kernel_rfl) (by kernel_rfl) (fun _ _ _ h => h) (Or.inl ⟨by rfl, ?_⟩) (by assumption) ?_
          rotate_left
          · (intro w9 hSw; (try dsimp only at hSw); go_simp; try with_reducible rfl)
          try simp only [Act.put, List.setIfInBounds_toArray, List.set_cons_zero, List.set_cons_succ]
          refine wpAnyH_take (i := 1) (oi := ⟨some 15, _, _, _, _, _⟩) (v := ?_) rfl (by kernel_rfl) (by kernel_rfl) (by kernel_rfl) (fun _ _ _ h => h) (Or.inl ⟨by rfl, ?_⟩) (by assumption) ?_
          rotate_left
          · (intro w9 hSw; (try dsimp only at hSw); go_simp; try with_reducible rfl)
          try simp only [Act.put, List.setIfInBounds_toArray, List.set_cons_zero, List.set_cons_succ]
          refine wpAnyH_take (i := 2) (oi := ⟨some 16, _, _, _, _, _⟩) (v := ?_) rfl (by kernel_rfl) (by kernel_rfl) (by kernel_rfl) (fun _ _ _ h => h) (Or.inl ⟨by rfl, ?_⟩) (by assumption) ?_
          rotate_left
          · (intro w9 hSw; (try dsimp only at hSw); go_simp; try with_reducible rfl)
          try simp only [Act.put, List.setIfInBounds_toArray, List.set_cons_zero, List.set_cons_succ]
          refine wpAnyH_take (i := 3) (oi := ⟨some 17, _, _, _, _, _⟩) (v := ?_) rfl (by kernel_rfl) (by kernel_rfl) (by kernel_rfl) (fun _ _ _ h => h) (Or.inl ⟨by rfl, ?_⟩) (by assumption) ?_
          rotate_left
          · (intro w9 hSw; (try dsimp only at hSw); go_simp; try with_reducible rfl)
          try simp only [Act.put, List.setIfInBounds_toArray, List.set_cons_zero, List.set_cons_succ]
          refine wpAnyH_take (i := 4) (oi := ⟨some 18, _, _, _, _, _⟩) (v := .int .i64 ((c : Int) + (r : Int))) rfl (by kernel_rfl) (by kernel_rfl) (by kernel_rfl) (fun _ _ _ h => h) (Or.inl ⟨by rfl, ?_⟩) (by assumption) ?_
          · (intro w9 hSw; (try dsimp only at hSw); go_simp; try rw [HWQ.out.1])
          try simp only [Act.put, List.setIfInBounds_toArray, List.set_cons_zero, List.set_cons_succ]
          refine wpAnyH_take (i := 5) (oi := ⟨some 19, _, _, _, _, _⟩) (v := .int .i64 (q : Int)) rfl (by kernel_rfl) (by kernel_rfl) (by kernel_rfl) (fun _ _ _ h => h) (Or.inl ⟨by rfl, ?_⟩) (by assumption) ?_
          · (intro w9 hSw; (try dsimp only at hSw); go_simp; (try rw [HQT.out]); try rw [HWQ.out.2])
          try simp only [Act.put, List.setIfInBounds_toArray, List.set_cons_zero, List.set_cons_succ]
          refine wpAnyH_take (i := 6) (oi := ⟨some 20, _, _, _, _, _⟩) (v := ?_) rfl (by kernel_rfl) (by kernel_rfl) (by kernel_rfl) (fun _ _ _ h => h) (Or.inl ⟨by rfl, ?_⟩) (by assumption) ?_
          rotate_left
          · (intro w9 hSw; (try dsimp only at hSw); go_simp; try with_reducible rfl)
          try simp only [Act.put, List.setIfInBounds_toArray, List.set_cons_zero, List.set_cons_succ]
          refine wpAnyH_take (i := 7) (oi := ⟨some 21, _, _, _, _, _⟩) (v := .pointer (some ⟨w.heap.size, q * 4, none⟩)) rfl (by kernel_rfl) (by kernel_rfl) (by kernel_rfl) (fun _ _ _ h => h) (Or.inl ⟨by rfl, ?_⟩) (by assumption) ?_
          · (intro w9 hSw; (try dsimp only at hSw); go_simp)
          try simp only [Act.put, List.setIfInBounds_toArray, List.set_cons_zero, List.set_cons_succ]
          refine wpAnyH_take (i := 8) (oi := ⟨some 22, _, _, _, _, _⟩) (v := .pointer (some ⟨w.heap.size, q * 4 + r, none⟩)) rfl (by kernel_rfl) (by kernel_rfl) (by kernel_rfl) (fun _ _ _ h => h) (Or.inl ⟨by rfl, ?_⟩) (by assumption) ?_
          · (intro w9 hSw; (try dsimp only at hSw); go_simp)
          try simp only [Act.put, List.setIfInBounds_toArray, List.set_cons_zero, List.set_cons_succ]
          refine wpAnyH_take (i := 9) (oi := ⟨some 23, _, _, _, _, _⟩) (v := uv x) rfl (by kernel_rfl) (by kernel_rfl) (by kernel_rfl) (fun _ _ _ h => h) (Or.inl ⟨by rfl, ?_⟩) (by assumption) ?_
          · (intro w9 hSw; have q0 := (hSw.cell (q * 4 + r)).trans HGA.out; (try dsimp only at hSw); go_simp)
          try simp only [Act.put, List.setIfInBounds_toArray, List.set_cons_zero, List.set_cons_succ]
          refine wpAnyH_take (i := 10) (oi := ⟨some 24, _, _, _, _, _⟩) (v := .pointer (some ⟨w.heap.size + 1 + 1, c * 4, none⟩)) rfl (by kernel_rfl) (by kernel_rfl) (by kernel_rfl) (fun _ _ _ h => h) (Or.inl ⟨by rfl, ?_⟩) (by assumption) ?_
          · (intro w9 hSw; (try dsimp only at hSw); go_simp)
          try simp only [Act.put, List.setIfInBounds_toArray, List.set_cons_zero, List.set_cons_succ]
          refine wpAnyH_take (i := 11) (oi := ⟨some 25, _, _, _, _, _⟩) (v := .pointer (some ⟨w.heap.size + 1 + 1, c * 4 + r, none⟩)) rfl (by kernel_rfl) (by kernel_rfl) (by kernel_rfl) (fun _ _ _ h => h) (Or.inl ⟨by rfl, ?_⟩) (by assumption) ?_
          · (intro w9 hSw; (try dsimp only at hSw); go_simp)
          try simp only [Act.put, List.setIfInBounds_toArray, List.set_cons_zero, List.set_cons_succ]
          refine wpAnyH_ready (rs := [12]) (by kernel_rfl) (by simp) ?_
          refine AllReadyH.cons (o := ⟨none, _, _, _, _, _⟩) rfl (fun K9 hK9 => ?_) AllReadyH.nil
          go_simp
          refine hK9.out _ _ ?_ (fun hHeld => ?_)
          · exact B2.out
          clear hK9 K9
          try simp only [Act.put]
          refine wpAnyH_done (by kernel_rfl) ?_ _
          generalize (wr.setCell ⟨w.heap.size + 1 + 1, c * 4 + r, none⟩ (uv x)).drew = w3 at B2 Z2 P2 hb2
          clear hHeld hc1 hf1 B Z1 P hb
          go_wp2_with fail
          exact ⟨⟨r + 1, by omega, by go_num, B2, Z2, P2, hb2⟩, by simp [intOf]; omega⟩
        · obtain rfl : r = 4 := by omega
          have HSE : Hid (c * 4 + 4 = (c + 1) * 4) := Lib.hid (by omega)
          rw [HSE.out] at P
          go_wp2_with fail
          exact ⟨⟨c + 1, by omega, by go_num, B, Z1, P, hb⟩, by simp [intOf]; omega⟩
    · obtain rfl : c = 4 := by omega
      have hP := P.out
      rw [show 4 * 4 = 16 from rfl, cutL_all HN.out HZ.out] at hP
      have HPN := Lib.hid hP
      have HONE := Lib.hid (uvs_one N)
      clear hP P
      go_wp2_with (first | (refine wpList_load_row rfl _ _ rfl _ rfl _ _ _ _ HPN.out Try.underlying45 rfl (glen HN.out) ?_) | (refine wpList_store_mid rfl _ _ _ rfl _ _ (N.map uv).toArray rfl rfl (gthere Z1.out HZ.out HN.out) (glen HN.out) (all_oneCell_toArray HONE.out) ?_))
      have hW := Z1.out.whole (N.map uv) (by rw [List.length_map, uvs_size, HN.out, HZ.out])
      refine bodyPost_ret (v := .agg (N.map uv).toArray) (results_cell_row rfl _ _ _ _ _ _ _ rfl hW Try.underlying45 rfl (glen HN.out)) rfl ?_
      exact ⟨rfl, bw hb (by omega) _ _⟩
end Go.Proofs.Ytodolffolbkaaaa
