/- The contract of a grid's keyed. -/
import Derived.Test.YtodolffolbkaaaaAGridM
namespace Go.Proofs.Ytodolffolbkaaaa
open Go.RowKit

set_option maxRecDepth 100000 in
set_option maxHeartbeats 4000000 in
theorem gkeyed_any (G : List UInt8) (K : List UInt8) (r gb : Nat) (w : World) (hG : G.length = 16) (hK : K.length = 16) (hr : Blk w r 52 (rnd K gb)) :
    Calls Try.prog 57 #[.agg (G.map uv).toArray, .pointer (some ⟨r, 0, none⟩)] w fun e w' => e = .returned (.agg ((keyG G K).map uv).toArray) ∧ Below w.heap.size w w' := by
  have HG := Lib.hid hG
  have HZ := Lib.hid (zerosL_len 16)
  have HGZ := Lib.hid gzero
  have HN : Hid ((keyG G K).length = 16) := Lib.hid (tab_len _ _)
  have HI := Lib.hid (gcol_at G hG)
  have HU : Hid (∀ c, c < 4 → xorW [ub G (c * 4), ub G (c * 4 + 1), ub G (c * 4 + 2), ub G (c * 4 + 3)] [ub K (c * 4), ub K (c * 4 + 1), ub K (c * 4 + 2), ub K (c * 4 + 3)] = [ub (keyG G K) (c * 4), ub (keyG G K) (c * 4 + 1), ub (keyG G K) (c * 4 + 2), ub (keyG G K) (c * 4 + 3)]) := Lib.hid (keyG_col G K)
  have HRW := Lib.hid hr
  have HRB := Lib.hid (fun i (hi : i < 16) => rnd_key gb hK hi)
  clear hr hK
  obtain ⟨N, hN⟩ : ∃ N, keyG G K = N := ⟨_, rfl⟩
  rw [hN] at HN HU ⊢
  have H0 : Hid ((G.map uv).toArray = ((cutL (0 * 4) N G).map uv).toArray) := Lib.hid (by rw [Nat.zero_mul, cutL_zero])
  obtain ⟨Z, hZ⟩ : ∃ Z, zerosL 16 = Z := ⟨_, rfl⟩
  rw [hZ] at HZ HGZ
  clear hZ hN hG
  go_enter Try.func57, Try.ntmps57
  go_upto_region 1 with fail
  rw [HGZ.out]
  have B0 := Lib.hid ((Blk.new w 45 (G.map uv).toArray).alloc (.cells (Z.map uv).toArray 45))
  have Z0 : Hid (Blk ((w.alloc (.cells (G.map uv).toArray 45)).alloc (.cells (Z.map uv).toArray 45)) (w.heap.size + 1) 45 (Z.map uv).toArray) := Lib.hid (Blk.newAt (by simp) _ _)
  have hb0 := ba (ba (Below.refl w.heap.size w) (.cells (G.map uv).toArray 45)) (.cells (Z.map uv).toArray 45)
  generalize (w.alloc (.cells (G.map uv).toArray 45)).alloc (.cells (Z.map uv).toArray 45) = w1 at B0 Z0 hb0
  go_wp2_with (refine wpList_load_row rfl _ _ rfl _ rfl _ _ _ _ B0.out Try.underlying45 rfl (glen HG.out) ?_)
  rw [H0.out] at B0
  go_loopw [8] (fun iv wr => ∃ i : Nat, i ≤ 4 ∧ iv = .int .i64 i ∧ Hid (Blk wr (w.heap.size + 1) 45 (Z.map uv).toArray) ∧ Hid (Blk wr w.heap.size 45 ((cutL (i * 4) N G).map uv).toArray) ∧ Below w.heap.size w wr) (fun iv _ => 4 - (intOf iv).toNat)
  case atStart => exact ⟨0, Nat.zero_le _, rfl, Z0, B0, hb0⟩
  case round =>
    clear Z0 B0 hb0
    obtain ⟨c, hc, rfl, Z1, B, hb⟩ := hrel
    by_cases hlt : c < 4
    · have hcl : (c : Int) < 4 := by omega
      have c0 : (0 : Int) ≤ (c : Int) := by omega
      have hix := HI.out c hlt
      have hu := HU.out c hlt
      have HP := Lib.hid (fun (W : World) (t : TypeId) (hB : Blk W w.heap.size t ((cutL (c * 4) N G).map uv).toArray) => put4 hB HN.out HG.out (by omega))
      have HTH := Lib.hid (fun (W : World) (t : TypeId) (hB : Blk W w.heap.size t ((cutL (c * 4) N G).map uv).toArray) => hB.spare (o := c * 4) (n := 4) (by rw [uvs_size, cutL_len HN.out HG.out (by omega)]; omega))
      have HSE : Hid (c * 4 + 4 = (c + 1) * 4) := Lib.hid (by omega)
      obtain ⟨n0, hn0⟩ : ∃ n, ub N (c * 4) = n := ⟨_, rfl⟩
      obtain ⟨n1, hn1⟩ : ∃ n, ub N (c * 4 + 1) = n := ⟨_, rfl⟩
      obtain ⟨n2, hn2⟩ : ∃ n, ub N (c * 4 + 2) = n := ⟨_, rfl⟩
      obtain ⟨n3, hn3⟩ : ∃ n, ub N (c * 4 + 3) = n := ⟨_, rfl⟩
      rw [hn0, hn1, hn2, hn3] at hu HP
      have HM := Lib.hid (fun W => xor_any (ub G (c * 4)) (ub G (c * 4 + 1)) (ub G (c * 4 + 2)) (ub G (c * 4 + 3)) (ub K (c * 4)) (ub K (c * 4 + 1)) (ub K (c * 4 + 2)) (ub K (c * 4 + 3)) W)
      rw [hu] at HM
      have HRC : Hid ((rnd K gb)[c * 4]? = some (uv (ub K (c * 4))) ∧ (rnd K gb)[c * 4 + 1]? = some (uv (ub K (c * 4 + 1))) ∧ (rnd K gb)[c * 4 + 2]? = some (uv (ub K (c * 4 + 2))) ∧ (rnd K gb)[c * 4 + 3]? = some (uv (ub K (c * 4 + 3)))) := Lib.hid ⟨HRB.out _ (by omega), HRB.out _ (by omega), HRB.out _ (by omega), HRB.out _ (by omega)⟩
      generalize ub K (c * 4) = k0 at HM HRC
      generalize ub K (c * 4 + 1) = k1 at HM HRC
      generalize ub K (c * 4 + 2) = k2 at HM HRC
      generalize ub K (c * 4 + 3) = k3 at HM HRC
      clear hu
      generalize ub G (c * 4) = x0 at hix HM
      generalize ub G (c * 4 + 1) = x1 at hix HM
      generalize ub G (c * 4 + 2) = x2 at hix HM
      generalize ub G (c * 4 + 3) = x3 at hix HM
      have hz1 := hb.size
      have hz2 := Z1.out.lt
      clear hn0 hn1 hn2 hn3 hlt hc
      go_wp2_with fail
      have BA := Lib.hid (B.out.alloc (.cells #[uv x0, uv x1, uv x2, uv x3] 43)).drew
      have ZA := Lib.hid (Z1.out.alloc (.cells #[uv x0, uv x1, uv x2, uv x3] 43)).drew
      have hbA := (ba hb (.cells #[uv x0, uv x1, uv x2, uv x3] 43)).drew
      have WA := Lib.hid (Blk.new wr 43 #[uv x0, uv x1, uv x2, uv x3]).drew
      have RA := Lib.hid (((HRW.out.below hb).alloc (.cells #[uv x0, uv x1, uv x2, uv x3] 43))).drew
      have zq := B.out.lt
      clear B Z1 hb hix
      refine wp_region_held_drew (S := fun W => Blk W wr.heap.size 43 #[uv x0, uv x1, uv x2, uv x3] ∧ Blk W r 52 (rnd K gb)) (by kernel_rfl) ?_ (fun hHeld => ?_)
      · exact ⟨WA.out, RA.out⟩
      refine wpAnyH_take (i := 0) (oi := ⟨some 12, _, _, _, _, _⟩) (v := ?_) rfl (by kernel_rfl) (by kernel_rfl) (by kernel_rfl) (fun _ _ _ h => h) (Or.inl ⟨by rfl, ?_⟩) (by assumption) ?_
      rotate_left
      · (intro w9 hSw; (try dsimp only at hSw); go_simp; try with_reducible rfl)
      try simp only [Act.put, List.setIfInBounds_toArray, List.set_cons_zero, List.set_cons_succ]
      refine wpAnyH_take (i := 1) (oi := ⟨some 13, _, _, _, _, _⟩) (v := .agg #[uv x0, uv x1, uv x2, uv x3]) rfl (by kernel_rfl) (by kernel_rfl) (by kernel_rfl) (fun _ _ _ h => h) (Or.inl ⟨by rfl, ?_⟩) (by assumption) ?_
      · (intro w9 hSw; have q0 := hSw.1.cell 0; have q1 := hSw.1.cell 1; have q2 := hSw.1.cell 2; have q3 := hSw.1.cell 3; simp only [List.getElem?_toArray, List.getElem?_cons_zero, List.getElem?_cons_succ] at q0 q1 q2 q3; (try dsimp only at hSw); go_simp)
      try simp only [Act.put, List.setIfInBounds_toArray, List.set_cons_zero, List.set_cons_succ]
      refine wpAnyH_take (i := 2) (oi := ⟨some 14, _, _, _, _, _⟩) (v := ?_) rfl (by kernel_rfl) (by kernel_rfl) (by kernel_rfl) (fun _ _ _ h => h) (Or.inl ⟨by rfl, ?_⟩) (by assumption) ?_
      rotate_left
      · (intro w9 hSw; (try dsimp only at hSw); go_simp; try with_reducible rfl)
      try simp only [Act.put, List.setIfInBounds_toArray, List.set_cons_zero, List.set_cons_succ]
      refine wpAnyH_take (i := 3) (oi := ⟨some 15, _, _, _, _, _⟩) (v := ?_) rfl (by kernel_rfl) (by kernel_rfl) (by kernel_rfl) (fun _ _ _ h => h) (Or.inl ⟨by rfl, ?_⟩) (by assumption) ?_
      rotate_left
      · (intro w9 hSw; (try dsimp only at hSw); go_simp; try with_reducible rfl)
      try simp only [Act.put, List.setIfInBounds_toArray, List.set_cons_zero, List.set_cons_succ]
      refine wpAnyH_take (i := 4) (oi := ⟨some 16, _, _, _, _, _⟩) (v := ?_) rfl (by kernel_rfl) (by kernel_rfl) (by kernel_rfl) (fun _ _ _ h => h) (Or.inl ⟨by rfl, ?_⟩) (by assumption) ?_
      rotate_left
      · (intro w9 hSw; (try dsimp only at hSw); go_simp; try with_reducible rfl)
      try simp only [Act.put, List.setIfInBounds_toArray, List.set_cons_zero, List.set_cons_succ]
      refine wpAnyH_take (i := 5) (oi := ⟨some 17, _, _, _, _, _⟩) (v := ?_) rfl (by kernel_rfl) (by kernel_rfl) (by kernel_rfl) (fun _ _ _ h => h) (Or.inl ⟨by rfl, ?_⟩) (by assumption) ?_
      rotate_left
      · (intro w9 hSw; (try dsimp only at hSw); go_simp; try with_reducible rfl)
      try simp only [Act.put, List.setIfInBounds_toArray, List.set_cons_zero, List.set_cons_succ]
      refine wpAnyH_take (i := 6) (oi := ⟨some 18, _, _, _, _, _⟩) (v := .pointer (some ⟨r, c * 4, none⟩)) rfl (by kernel_rfl) (by kernel_rfl) (by kernel_rfl) (fun _ _ _ h => h) (Or.inl ⟨by rfl, ?_⟩) (by assumption) ?_
      · (intro w9 hSw; (try dsimp only at hSw); go_simp)
      try simp only [Act.put, List.setIfInBounds_toArray, List.set_cons_zero, List.set_cons_succ]
      refine wpAnyH_take (i := 7) (oi := ⟨some 19, _, _, _, _, _⟩) (v := .agg #[uv k0, uv k1, uv k2, uv k3]) rfl (by kernel_rfl) (by kernel_rfl) (by kernel_rfl) (fun _ _ _ h => h) (Or.inl ⟨by rfl, ?_⟩) (by assumption) ?_
      · (intro w9 hSw; have q0 := (hSw.2.cell (c * 4)).trans HRC.out.1; have q1 := (hSw.2.cell (c * 4 + 1)).trans HRC.out.2.1; have q2 := (hSw.2.cell (c * 4 + 2)).trans HRC.out.2.2.1; have q3 := (hSw.2.cell (c * 4 + 3)).trans HRC.out.2.2.2; (try dsimp only at hSw); go_simp)
      try simp only [Act.put, List.setIfInBounds_toArray, List.set_cons_zero, List.set_cons_succ]
      refine wpAnyH_ready (rs := [8]) (by kernel_rfl) (by simp) ?_
      refine AllReadyH.cons (o := ⟨some 20, _, _, _, _, _⟩) rfl (fun K9 hK9 => ?_) AllReadyH.nil
      go_simp
      go_at_call 52
      refine (HM.out _).mono ?_
      rintro e w2 ⟨rfl, hb2⟩
      have hS6 : Blk w2 wr.heap.size 43 #[uv x0, uv x1, uv x2, uv x3] ∧ Blk w2 r 52 (rnd K gb) := ⟨WA.out.below hb2, RA.out.below hb2⟩
      go_wp2_with fail
      refine hK9.out _ _ ?_ (fun hHeld => ?_)
      · assumption
      clear hK9 K9
      try simp only [Act.put, List.setIfInBounds_toArray, List.set_cons_zero, List.set_cons_succ]
      refine wpAnyH_take (i := 9) (oi := ⟨some 21, _, _, _, _, _⟩) (v := .pointer (some ⟨w.heap.size, c * 4, none⟩)) rfl (by kernel_rfl) (by kernel_rfl) (by kernel_rfl) (fun _ _ _ h => h) (Or.inl ⟨by rfl, ?_⟩) (by assumption) ?_
      · (intro w9 hSw; (try dsimp only at hSw); go_simp)
      try simp only [Act.put, List.setIfInBounds_toArray, List.set_cons_zero, List.set_cons_succ]
      refine wpAnyH_ready (rs := [10]) (by kernel_rfl) (by simp) ?_
      refine AllReadyH.cons (o := ⟨none, _, _, _, _, _⟩) rfl (fun K9 hK9 => ?_) AllReadyH.nil
      have B2 := Lib.hid (BA.out.below hb2)
      have Z2 := Lib.hid (ZA.out.below hb2)
      have hB2 := bt hbA hb2
      have HRN : Hid (r < w.heap.size) := Lib.hid HRW.out.lt
      have HT2 : Hid (w2.there w.heap.size (c * 4) (([n0, n1, n2, n3].map uv).toArray).size) := Lib.hid (HTH.out _ _ B2.out)
      have B3 := Lib.hid (HP.out _ _ B2.out)
      have Z3 := Lib.hid (Z2.out.far_ (k := w.heap.size + 1) (g := w.heap.size) (by omega) (c * 4) [uv n0, uv n1, uv n2, uv n3])
      have hb3 := bw hB2 (g := w.heap.size) (Nat.le_refl _) (c * 4) [uv n0, uv n1, uv n2, uv n3]
      have hset : w2.setCells w.heap.size (c * 4) [uv n0, uv n1, uv n2, uv n3] = w2.setCells w.heap.size (c * 4) ([n0, n1, n2, n3].map uv) := rfl
      rw [hset] at B3 Z3 hb3

      have hS8 : Blk (w2.setCells w.heap.size (c * 4) ([n0, n1, n2, n3].map uv)) wr.heap.size 43 #[uv x0, uv x1, uv x2, uv x3] ∧ Blk (w2.setCells w.heap.size (c * 4) ([n0, n1, n2, n3].map uv)) r 52 (rnd K gb) := ⟨hS6.1.far_ (by omega) _ _, hS6.2.far_ (by have := HRN.out; omega) _ _⟩
      refine step_store_mid rfl _ _ _ rfl w.heap.size (c * 4) ([n0, n1, n2, n3].map uv).toArray (by rfl) (by rfl) HT2.out (by kernel_rfl) (all_oneCell_toArray (uvs_one [n0, n1, n2, n3])) ?_
      refine hK9.out _ _ ?_ (fun hHeld => ?_)
      · exact hS8
      clear hK9 K9
      try simp only [Act.put]
      refine wpAnyH_done (by kernel_rfl) ?_ _
      generalize w2.setCells w.heap.size (c * 4) ([n0, n1, n2, n3].map uv) = w3 at B3 Z3 hb3
      clear hset HT2 B2 Z2 hB2 hS6 hS8 hHeld BA ZA hbA WA RA hb2
      rw [HSE.out] at B3
      go_wp2_with fail
      exact ⟨⟨c + 1, by omega, by go_num, Z3, B3, hb3⟩, by simp [intOf]; omega⟩
    · obtain rfl : c = 4 := by omega
      have hB := B.out
      rw [show 4 * 4 = 16 from rfl, cutL_all HN.out HG.out] at hB
      have HBN := Lib.hid hB
      have HONE := Lib.hid (uvs_one N)
      clear hB B
      go_wp2_with (first | (refine wpList_load_row rfl _ _ rfl _ rfl _ _ _ _ HBN.out Try.underlying45 rfl (glen HN.out) ?_) | (refine wpList_store_mid rfl _ _ _ rfl _ _ (N.map uv).toArray rfl rfl (gthere Z1.out HZ.out HN.out) (glen HN.out) (all_oneCell_toArray HONE.out) ?_))
      have hW := Z1.out.whole (N.map uv) (by rw [List.length_map, uvs_size, HN.out, HZ.out])
      refine bodyPost_ret (v := .agg (N.map uv).toArray) (results_cell_row rfl _ _ _ _ _ _ _ rfl hW Try.underlying45 rfl (glen HN.out)) rfl ?_
      exact ⟨rfl, bw hb (by omega) _ _⟩
end Go.Proofs.Ytodolffolbkaaaa
