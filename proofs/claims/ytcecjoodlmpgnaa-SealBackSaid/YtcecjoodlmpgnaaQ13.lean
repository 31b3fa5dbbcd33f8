/- Texts of this seat, one behind the other: AGBox, AGTurn, AGMix, ATold, AIs. -/
import Derived.Test.YtcecjoodlmpgnaaQ12
/- The contract of a grid's boxed. -/
namespace Go.Proofs.Ytcecjoodlmpgnaa
open Go.RowKit

set_option maxRecDepth 100000 in
set_option maxHeartbeats 4000000 in
theorem gboxed_any (G : List UInt8) (K : List UInt8) (r gb : Nat) (w : World) (hG : G.length = 16) (hK : K.length = 16) (hr : Blk w r 108 (rnd K gb)) (hx : Blk w gb 5 bxs) :
    Calls Try.prog 83 #[.agg (G.map uv).toArray, .pointer (some ⟨r, 0, none⟩)] w fun e w' => e = .returned (.agg ((boxG G).map uv).toArray) ∧ Below w.heap.size w w' := by
  have HG := Lib.hid hG
  have HZ := Lib.hid (zerosL_len 16)
  have HGZ := Lib.hid gzero
  have HN : Hid ((boxG G).length = 16) := Lib.hid (tab_len _ _)
  have HI := Lib.hid (gcol_at G hG)
  have HU : Hid (∀ c, c < 4 → boxW [ub G (c * 4), ub G (c * 4 + 1), ub G (c * 4 + 2), ub G (c * 4 + 3)] = [ub (boxG G) (c * 4), ub (boxG G) (c * 4 + 1), ub (boxG G) (c * 4 + 2), ub (boxG G) (c * 4 + 3)]) := Lib.hid (boxG_col G)
  have HRW := Lib.hid hr
  have HXW := Lib.hid hx
  have HRB := Lib.hid (rnd_box gb hK)
  clear hr hx hK
  obtain ⟨N, hN⟩ : ∃ N, boxG G = N := ⟨_, rfl⟩
  rw [hN] at HN HU ⊢
  have H0 : Hid ((G.map uv).toArray = ((cutL (0 * 4) N G).map uv).toArray) := Lib.hid (by rw [Nat.zero_mul, cutL_zero])
  obtain ⟨Z, hZ⟩ : ∃ Z, zerosL 16 = Z := ⟨_, rfl⟩
  rw [hZ] at HZ HGZ
  clear hZ hN hG
  go_enter Try.func83, Try.ntmps83
  go_upto_region 1 with fail
  rw [HGZ.out]
  have B0 := Lib.hid ((Blk.new w 78 (G.map uv).toArray).alloc (.cells (Z.map uv).toArray 78))
  have Z0 : Hid (Blk ((w.alloc (.cells (G.map uv).toArray 78)).alloc (.cells (Z.map uv).toArray 78)) (w.heap.size + 1) 78 (Z.map uv).toArray) := Lib.hid (Blk.newAt (by simp) _ _)
  have hb0 := ba (ba (Below.refl w.heap.size w) (.cells (G.map uv).toArray 78)) (.cells (Z.map uv).toArray 78)
  generalize (w.alloc (.cells (G.map uv).toArray 78)).alloc (.cells (Z.map uv).toArray 78) = w1 at B0 Z0 hb0
  go_wp2_with (refine wpList_load_row rfl _ _ rfl _ rfl _ _ _ _ B0.out Try.underlying78 rfl (glen HG.out) ?_)
  rw [H0.out] at B0
  go_loopw [8] (fun iv wr => ∃ i : Nat, i ≤ 4 ∧ iv = .int .i64 i ∧ Hid (Blk wr (w.heap.size + 1) 78 (Z.map uv).toArray) ∧ Hid (Blk wr w.heap.size 78 ((cutL (i * 4) N G).map uv).toArray) ∧ Below w.heap.size w wr) (fun iv _ => 4 - (intOf iv).toNat)
  case atStart => exact ⟨0, Nat.zero_le _, rfl, Z0, B0, hb0⟩
  case round =>
    clear Z0 B0 hb0
    obtain ⟨c, hc, rfl, Z1, B, hb⟩ := hrel
    by_cases hlt : c < 4
    · have hcl : (c : Int) < 4 := by omega
      have c0 : (0 : Int) ≤ (c : Int) := by omega
      have hix := HI.out c hlt
      have hu := HU.out c hlt
      have HP := Lib.hid (fun (W : World) (t : TypeId) (hB : Blk W w.heap.size t ((cutL (c * 4) N G).map uv).toArray) => put4 hB HN.out HG.out (by omega))
      have HTH := Lib.hid (fun (W : World) (t : TypeId) (hB : Blk W w.heap.size t ((cutL (c * 4) N G).map uv).toArray) => hB.spare (o := c * 4) (n := 4) (by rw [uvs_size, cutL_len HN.out HG.out (by omega)]; omega))
      have HSE : Hid (c * 4 + 4 = (c + 1) * 4) := Lib.hid (by omega)
      obtain ⟨n0, hn0⟩ : ∃ n, ub N (c * 4) = n := ⟨_, rfl⟩
      obtain ⟨n1, hn1⟩ : ∃ n, ub N (c * 4 + 1) = n := ⟨_, rfl⟩
      obtain ⟨n2, hn2⟩ : ∃ n, ub N (c * 4 + 2) = n := ⟨_, rfl⟩
      obtain ⟨n3, hn3⟩ : ∃ n, ub N (c * 4 + 3) = n := ⟨_, rfl⟩
      rw [hn0, hn1, hn2, hn3] at hu HP
      have HM := Lib.hid (fun W hW => boxed_any (ub G (c * 4)) (ub G (c * 4 + 1)) (ub G (c * 4 + 2)) (ub G (c * 4 + 3)) gb W hW)
      rw [hu] at HM
      clear hu
      generalize ub G (c * 4) = x0 at hix HM
      generalize ub G (c * 4 + 1) = x1 at hix HM
      generalize ub G (c * 4 + 2) = x2 at hix HM
      generalize ub G (c * 4 + 3) = x3 at hix HM
      have hz1 := hb.size
      have hz2 := Z1.out.lt
      clear hn0 hn1 hn2 hn3 hlt hc
      go_wp2_with fail
      have BA := Lib.hid (B.out.alloc (.cells #[uv x0, uv x1, uv x2, uv x3] 76)).drew
      have ZA := Lib.hid (Z1.out.alloc (.cells #[uv x0, uv x1, uv x2, uv x3] 76)).drew
      have hbA := (ba hb (.cells #[uv x0, uv x1, uv x2, uv x3] 76)).drew
      have WA := Lib.hid (Blk.new wr 76 #[uv x0, uv x1, uv x2, uv x3]).drew
      have RA := Lib.hid (((HRW.out.below hb).alloc (.cells #[uv x0, uv x1, uv x2, uv x3] 76))).drew
      have XA := Lib.hid (((HXW.out.below hb).alloc (.cells #[uv x0, uv x1, uv x2, uv x3] 76))).drew
      have zq := B.out.lt
      clear B Z1 hb hix
      refine wp_region_held_drew (S := fun W => Blk W wr.heap.size 76 #[uv x0, uv x1, uv x2, uv x3] ∧ Blk W r 108 (rnd K gb)) (by kernel_rfl) ?_ (fun hHeld => ?_)
      · exact ⟨WA.out, RA.out⟩
      refine wpAnyH_take (i := 0) (oi := ⟨some 12, _, _, _, _, _⟩) (v := ?_) rfl (by kernel_rfl) (by kernel_rfl) (by kernel_rfl) (fun _ _ _ h => h) (Or.inl ⟨by rfl, ?_⟩) (by assumption) ?_
      rotate_left
      · (intro w9 hSw; (try dsimp only at hSw); go_simp; try with_reducible rfl)
      try simp only [Act.put, List.setIfInBounds_toArray, List.set_cons_zero, List.set_cons_succ]
      refine wpAnyH_take (i := 1) (oi := ⟨some 13, _, _, _, _, _⟩) (v := .agg #[uv x0, uv x1, uv x2, uv x3]) rfl (by kernel_rfl) (by kernel_rfl) (by kernel_rfl) (fun _ _ _ h => h) (Or.inl ⟨by rfl, ?_⟩) (by assumption) ?_
      · (intro w9 hSw; have q0 := hSw.1.cell 0; have q1 := hSw.1.cell 1; have q2 := hSw.1.cell 2; have q3 := hSw.1.cell 3; simp only [List.getElem?_toArray, List.getElem?_cons_zero, List.getElem?_cons_succ] at q0 q1 q2 q3; (try dsimp only at hSw); go_simp)
      try simp only [Act.put, List.setIfInBounds_toArray, List.set_cons_zero, List.set_cons_succ]
      refine wpAnyH_take (i := 2) (oi := ⟨some 14, _, _, _, _, _⟩) (v := ?_) rfl (by kernel_rfl) (by kernel_rfl) (by kernel_rfl) (fun _ _ _ h => h) (Or.inl ⟨by rfl, ?_⟩) (by assumption) ?_
      rotate_left
      · (intro w9 hSw; (try dsimp only at hSw); go_simp; try with_reducible rfl)
      try simp only [Act.put, List.setIfInBounds_toArray, List.set_cons_zero, List.set_cons_succ]
      refine wpAnyH_take (i := 3) (oi := ⟨some 15, _, _, _, _, _⟩) (v := ?_) rfl (by kernel_rfl) (by kernel_rfl) (by kernel_rfl) (fun _ _ _ h => h) (Or.inl ⟨by rfl, ?_⟩) (by assumption) ?_
      rotate_left
      · (intro w9 hSw; (try dsimp only at hSw); go_simp; try with_reducible rfl)
      try simp only [Act.put, List.setIfInBounds_toArray, List.set_cons_zero, List.set_cons_succ]
      refine wpAnyH_take (i := 4) (oi := ⟨some 16, _, _, _, _, _⟩) (v := ?_) rfl (by kernel_rfl) (by kernel_rfl) (by kernel_rfl) (fun _ _ _ h => h) (Or.inl ⟨by rfl, ?_⟩) (by assumption) ?_
      rotate_left
      · (intro w9 hSw; (try dsimp only at hSw); go_simp; try with_reducible rfl)
      try simp only [Act.put, List.setIfInBounds_toArray, List.set_cons_zero, List.set_cons_succ]
      refine wpAnyH_take (i := 5) (oi := ⟨some 17, _, _, _, _, _⟩) (v := .slice (some ⟨gb, 0, none⟩) 256 256) rfl (by kernel_rfl) (by kernel_rfl) (by kernel_rfl) (fun _ _ _ h => h) (Or.inl ⟨by rfl, ?_⟩) (by assumption) ?_
      · (intro w9 hSw; have q0 := (hSw.2.cell 16).trans HRB.out; (try dsimp only at hSw); go_simp)
      try simp only [Act.put, List.setIfInBounds_toArray, List.set_cons_zero, List.set_cons_succ]
      refine wpAnyH_ready (rs := [6]) (by kernel_rfl) (by simp) ?_
      refine AllReadyH.cons (o := ⟨some 18, _, _, _, _, _⟩) rfl (fun K9 hK9 => ?_) AllReadyH.nil
      go_simp
      go_at_call 93
      refine (HM.out _ XA.out).mono ?_
      rintro e w2 ⟨rfl, hb2⟩
      have hS6 : Blk w2 wr.heap.size 76 #[uv x0, uv x1, uv x2, uv x3] ∧ Blk w2 r 108 (rnd K gb) := ⟨WA.out.below hb2, RA.out.below hb2⟩
      go_wp2_with fail
      refine hK9.out _ _ ?_ (fun hHeld => ?_)
      · assumption
      clear hK9 K9
      try simp only [Act.put, List.setIfInBounds_toArray, List.set_cons_zero, List.set_cons_succ]
      refine wpAnyH_take (i := 7) (oi := ⟨some 19, _, _, _, _, _⟩) (v := .pointer (some ⟨w.heap.size, c * 4, none⟩)) rfl (by kernel_rfl) (by kernel_rfl) (by kernel_rfl) (fun _ _ _ h => h) (Or.inl ⟨by rfl, ?_⟩) (by assumption) ?_
      · (intro w9 hSw; (try dsimp only at hSw); go_simp)
      try simp only [Act.put, List.setIfInBounds_toArray, List.set_cons_zero, List.set_cons_succ]
      refine wpAnyH_ready (rs := [8]) (by kernel_rfl) (by simp) ?_
      refine AllReadyH.cons (o := ⟨none, _, _, _, _, _⟩) rfl (fun K9 hK9 => ?_) AllReadyH.nil
      have B2 := Lib.hid (BA.out.below hb2)
      have Z2 := Lib.hid (ZA.out.below hb2)
      have hB2 := bt hbA hb2
      have HRN : Hid (r < w.heap.size) := Lib.hid HRW.out.lt
      have HT2 : Hid (w2.there w.heap.size (c * 4) (([n0, n1, n2, n3].map uv).toArray).size) := Lib.hid (HTH.out _ _ B2.out)
      have B3 := Lib.hid (HP.out _ _ B2.out)
      have Z3 := Lib.hid (Z2.out.far_ (k := w.heap.size + 1) (g := w.heap.size) (by omega) (c * 4) [uv n0, uv n1, uv n2, uv n3])
      have hb3 := bw hB2 (g := w.heap.size) (Nat.le_refl _) (c * 4) [uv n0, uv n1, uv n2, uv n3]
      have hset : w2.setCells w.heap.size (c * 4) [uv n0, uv n1, uv n2, uv n3] = w2.setCells w.heap.size (c * 4) ([n0, n1, n2, n3].map uv) := rfl
      rw [hset] at B3 Z3 hb3

      have hS8 : Blk (w2.setCells w.heap.size (c * 4) ([n0, n1, n2, n3].map uv)) wr.heap.size 76 #[uv x0, uv x1, uv x2, uv x3] ∧ Blk (w2.setCells w.heap.size (c * 4) ([n0, n1, n2, n3].map uv)) r 108 (rnd K gb) := ⟨hS6.1.far_ (by omega) _ _, hS6.2.far_ (by have := HRN.out; omega) _ _⟩
      refine step_store_mid rfl _ _ _ rfl w.heap.size (c * 4) ([n0, n1, n2, n3].map uv).toArray (by rfl) (by rfl) HT2.out (by kernel_rfl) (all_oneCell_toArray (uvs_one [n0, n1, n2, n3])) ?_
      refine hK9.out _ _ ?_ (fun hHeld => ?_)
      · exact hS8
      clear hK9 K9
      try simp only [Act.put]
      refine wpAnyH_done (by kernel_rfl) ?_ _
      generalize w2.setCells w.heap.size (c * 4) ([n0, n1, n2, n3].map uv) = w3 at B3 Z3 hb3
      clear hset HT2 B2 Z2 hB2 hS6 hS8 hHeld BA ZA hbA WA RA XA hb2
      rw [HSE.out] at B3
      go_wp2_with fail
      exact ⟨⟨c + 1, by omega, by go_num, Z3, B3, hb3⟩, by simp [intOf]; omega⟩
    · obtain rfl : c = 4 := by omega
      have hB := B.out
      rw [show 4 * 4 = 16 from rfl, cutL_all HN.out HG.out] at hB
      have HBN := Lib.hid hB
      have HONE := Lib.hid (uvs_one N)
      clear hB B
      go_wp2_with (first | (refine wpList_load_row rfl _ _ rfl _ rfl _ _ _ _ HBN.out Try.underlying78 rfl (glen HN.out) ?_) | (refine wpList_store_mid rfl _ _ _ rfl _ _ (N.map uv).toArray rfl rfl (gthere Z1.out HZ.out HN.out) (glen HN.out) (all_oneCell_toArray HONE.out) ?_))
      have hW := Z1.out.whole (N.map uv) (by rw [List.length_map, uvs_size, HN.out, HZ.out])
      refine bodyPost_ret (v := .agg (N.map uv).toArray) (results_cell_row rfl _ _ _ _ _ _ _ rfl hW Try.underlying78 rfl (glen HN.out)) rfl ?_
      exact ⟨rfl, bw hb (by omega) _ _⟩
end Go.Proofs.Ytcecjoodlmpgnaa
/- The contract of a grid's turned. -/
namespace Go.Proofs.Ytcecjoodlmpgnaa
open Go.RowKit

theorem turnG_at (G : List UInt8) (c r : Nat) (hc : c < 4) (hr : r < 4) : ub (turnG G) (c * 4 + r) = ub G ((c + r) % 4 * 4 + r) := by
  unfold turnG
  rw [ub_tab _ (by omega), show (c * 4 + r) / 4 = c by omega, show (c * 4 + r) % 4 = r by omega, Nat.mul_comm]

set_option maxRecDepth 100000 in
set_option maxHeartbeats 4000000 in
theorem gturned_any (G : List UInt8) (rv : Value) (w : World) (hG : G.length = 16) :
    Calls Try.prog 84 #[.agg (G.map uv).toArray, rv] w fun e w' => e = .returned (.agg ((turnG G).map uv).toArray) ∧ Below w.heap.size w w' := by
  have HG := Lib.hid hG
  have HZ := Lib.hid (zerosL_len 16)
  have HGZ := Lib.hid gzero
  have HN : Hid ((turnG G).length = 16) := Lib.hid (tab_len _ _)
  have HU := Lib.hid (turnG_at G)
  obtain ⟨N, hN⟩ : ∃ N, turnG G = N := ⟨_, rfl⟩
  rw [hN] at HN HU ⊢
  obtain ⟨Z, hZ⟩ : ∃ Z, zerosL 16 = Z := ⟨_, rfl⟩
  rw [hZ] at HZ HGZ
  have H0 : Hid ((Z.map uv).toArray = ((cutL (0 * 4) N Z).map uv).toArray) := Lib.hid (by rw [Nat.zero_mul, cutL_zero])
  clear hZ hN hG
  go_enter Try.func84, Try.ntmps84
  go_upto_region 2 with fail
  rw [HGZ.out]
  have B0 := Lib.hid (((Blk.new w 78 (G.map uv).toArray).alloc (.cells (Z.map uv).toArray 78)).alloc (.cells (Z.map uv).toArray 78))
  have Z0 : Hid (Blk (((w.alloc (.cells (G.map uv).toArray 78)).alloc (.cells (Z.map uv).toArray 78)).alloc (.cells (Z.map uv).toArray 78)) (w.heap.size + 1) 78 (Z.map uv).toArray) := Lib.hid ((Blk.newAt (by simp) _ _).alloc _)
  have P0 : Hid (Blk (((w.alloc (.cells (G.map uv).toArray 78)).alloc (.cells (Z.map uv).toArray 78)).alloc (.cells (Z.map uv).toArray 78)) (w.heap.size + 1 + 1) 78 (Z.map uv).toArray) := Lib.hid (Blk.newAt (by simp) _ _)
  have hb0 := ba (ba (ba (Below.refl w.heap.size w) (.cells (G.map uv).toArray 78)) (.cells (Z.map uv).toArray 78)) (.cells (Z.map uv).toArray 78)
  generalize ((w.alloc (.cells (G.map uv).toArray 78)).alloc (.cells (Z.map uv).toArray 78)).alloc (.cells (Z.map uv).toArray 78) = w1 at B0 Z0 P0 hb0
  rw [H0.out] at P0
  go_wp2_with fail
  go_loopw [8] (fun iv wr => ∃ i : Nat, i ≤ 4 ∧ iv = .int .i64 i ∧ Hid (Blk wr w.heap.size 78 (G.map uv).toArray) ∧ Hid (Blk wr (w.heap.size + 1) 78 (Z.map uv).toArray) ∧ Hid (Blk wr (w.heap.size + 1 + 1) 78 ((cutL (i * 4) N Z).map uv).toArray) ∧ Below w.heap.size w wr) (fun iv _ => 4 - (intOf iv).toNat)
  case atStart => exact ⟨0, Nat.zero_le _, rfl, B0, Z0, P0, hb0⟩
  case round =>
    clear Z0 B0 P0 hb0
    obtain ⟨c, hc, rfl, B, Z1, P, hb⟩ := hrel
    by_cases hlt : c < 4
    · have hcl : (c : Int) < 4 := by omega
      have hc0 : (0 : Int) ≤ (c : Int) := by omega
      go_wp2_with fail
      go_loopw [11] (fun rv wx => ∃ r : Nat, r ≤ 4 ∧ rv = .int .i64 r ∧ Hid (Blk wx w.heap.size 78 (G.map uv).toArray) ∧ Hid (Blk wx (w.heap.size + 1) 78 (Z.map uv).toArray) ∧ Hid (Blk wx (w.heap.size + 1 + 1) 78 ((cutL (c * 4 + r) N Z).map uv).toArray) ∧ Below w.heap.size w wx) (fun rv _ => 4 - (intOf rv).toNat)
      case atStart => exact ⟨0, Nat.zero_le _, rfl, B, Z1, P, hb⟩
      case round =>
        clear B Z1 P hb
        obtain ⟨r, hr, rfl, B, Z1, P, hb⟩ := hrel
        by_cases hrl : r < 4
        · have hri : (r : Int) < 4 := by omega
          have hr0 : (0 : Int) ≤ (r : Int) := by omega
          have hu := HU.out c r hlt hrl
          obtain ⟨q, hq⟩ : ∃ q, (c + r) % 4 = q := ⟨_, rfl⟩
          have hqi : ((c : Int) + (r : Int)) % 4 = (q : Int) := by omega
          have hql : (q : Int) < 4 := by omega
          have hq0 : (0 : Int) ≤ (q : Int) := by omega
          rw [hq] at hu
          have hset := cutL_set HN.out HZ.out (show c * 4 + r < 16 by omega)
          have hold := (P.out.cell (c * 4 + r)).trans (row_at (by rw [cutL_len HN.out HZ.out (by omega)]; omega))
          rw [hu] at hset
          have hgat := row_at (L := G) (i := q * 4 + r) (by rw [HG.out]; omega)
          generalize ub G (q * 4 + r) = x at hset hgat
          have HGA := Lib.hid hgat
          have HST := Lib.hid hset
          have HWQ : Hid (IntKind.i64.wrap ((c : Int) + (r : Int)) = (c : Int) + (r : Int) ∧ IntKind.i64.wrap (q : Int) = (q : Int)) := Lib.hid (by constructor <;> (rw [IntKind.wrap_i64]; omega))
          clear hu hq hset hgat
          have HQT : Hid (((c : Int) + (r : Int)).tmod 4 = (q : Int)) := Lib.hid (by rw [Int.tmod_eq_emod_of_nonneg (by omega)]; exact hqi)
          go_wp2_with fail
          have hc1 : wr.drew.cell? ⟨w.heap.size + 1 + 1, c * 4 + r, none⟩ = some (uv (ub (cutL (c * 4 + r) N Z) (c * 4 + r))) := hold
          generalize ub (cutL (c * 4 + r) N Z) (c * 4 + r) = old at hc1
          have hf1 : wr.drew.frozen? ⟨w.heap.size + 1 + 1, c * 4 + r, none⟩ = false := P.out.frozen _
          have B2 := Lib.hid (B.out.far (p := ⟨w.heap.size + 1 + 1, c * 4 + r, none⟩) (by simp; omega) (uv x)).drew
          have Z2 := Lib.hid (Z1.out.far (p := ⟨w.heap.size + 1 + 1, c * 4 + r, none⟩) (by simp) (uv x)).drew
          have hP2 := (P.out.set_ (c * 4 + r) (uv x)).drew
          rw [HST.out] at hP2
          have P2 := Lib.hid hP2
          have hb2 := (bs hb (b := w.heap.size + 1 + 1) (o := c * 4 + r) (by omega) (uv x)).drew
          clear hold hP2 HST
          refine wp_region_held_drew (S := fun W => Blk W w.heap.size 78 (G.map uv).toArray) (by kernel_rfl) B.out.drew (fun hHeld => ?_)
          refine wpAnyH_take (i := 0) (oi := ⟨some 14, _, _, _, _, _⟩) (v := ?_) rfl (by kernel_rfl) (by kernel_rfl) (by kernel_rfl) (fun _ _ _ h => h) (Or.inl ⟨by rfl, ?_⟩) (by assumption) ?_
          rotate_left
          · (intro w9 hSw; (try dsimp only at hSw); go_simp; try with_reducible rfl)
          try simp only [Act.put, List.setIfInBounds_toArray, List.set_cons_zero, List.set_cons_succ]
          refine wpAnyH_take (i := 1) (oi := ⟨some 15, _, _, _, _, _⟩) (v := ?_) rfl (by kernel_rfl) (by kernel_rfl) (by kernel_rfl) (fun _ _ _ h => h) (Or.inl ⟨by rfl, ?_⟩) (by assumption) ?_
          rotate_left
          · (intro w9 hSw; (try dsimp only at hSw); go_simp; try with_reducible rfl)
          try simp only [Act.put, List.setIfInBounds_toArray, List.set_cons_zero, List.set_cons_succ]
          refine wpAnyH_take (i := 2) (oi := ⟨some 16, _, _, _, _, _⟩) (v := ?_) rfl (by kernel_rfl) (by kernel_rfl) (by kernel_rfl) (fun _ _ _ h => h) (Or.inl ⟨by rfl, ?_⟩) (by assumption) ?_
          rotate_left
          · (intro w9 hSw; (try dsimp only at hSw); go_simp; try with_reducible rfl)
          try simp only [Act.put, List.setIfInBounds_toArray, List.set_cons_zero, List.set_cons_succ]
          refine wpAnyH_take (i := 3) (oi := ⟨some 17, _, _, _, _, _⟩) (v := ?_) rfl (by kernel_rfl) (by kernel_rfl) (by kernel_rfl) (fun _ _ _ h => h) (Or.inl ⟨by rfl, ?_⟩) (by assumption) ?_
          rotate_left
          · (intro w9 hSw; (try dsimp only at hSw); go_simp; try with_reducible rfl)
          try simp only [Act.put, List.setIfInBounds_toArray, List.set_cons_zero, List.set_cons_succ]
          refine wpAnyH_take (i := 4) (oi := ⟨some 18, _, _, _, _, _⟩) (v := .int .i64 ((c : Int) + (r : Int))) rfl (by kernel_rfl) (by kernel_rfl) (by kernel_rfl) (fun _ _ _ h => h) (Or.inl ⟨by rfl, ?_⟩) (by assumption) ?_
          · (intro w9 hSw; (try dsimp only at hSw); go_simp; try rw [HWQ.out.1])
          try simp only [Act.put, List.setIfInBounds_toArray, List.set_cons_zero, List.set_cons_succ]
          refine wpAnyH_take (i := 5) (oi := ⟨some 19, _, _, _, _, _⟩) (v := .int .i64 (q : Int)) rfl (by kernel_rfl) (by kernel_rfl) (by kernel_rfl) (fun _ _ _ h => h) (Or.inl ⟨by rfl, ?_⟩) (by assumption) ?_
          · (intro w9 hSw; (try dsimp only at hSw); go_simp; (try rw [HQT.out]); try rw [HWQ.out.2])
          try simp only [Act.put, List.setIfInBounds_toArray, List.set_cons_zero, List.set_cons_succ]
          refine wpAnyH_take (i := 6) (oi := ⟨some 20, _, _, _, _, _⟩) (v := ?_) rfl (by kernel_rfl) (by kernel_rfl) (by kernel_rfl) (fun _ _ _ h => h) (Or.inl ⟨by rfl, ?_⟩) (by assumption) ?_
          rotate_left
          · (intro w9 hSw; (try dsimp only at hSw); go_simp; try with_reducible rfl)
          try simp only [Act.put, List.setIfInBounds_toArray, List.set_cons_zero, List.set_cons_succ]
          refine wpAnyH_take (i := 7) (oi := ⟨some 21, _, _, _, _, _⟩) (v := .pointer (some ⟨w.heap.size, q * 4, none⟩)) rfl (by kernel_rfl) (by kernel_rfl) (by kernel_rfl) (fun _ _ _ h => h) (Or.inl ⟨by rfl, ?_⟩) (by assumption) ?_
          · (intro w9 hSw; (try dsimp only at hSw); go_simp)
          try simp only [Act.put, List.setIfInBounds_toArray, List.set_cons_zero, List.set_cons_succ]
          refine wpAnyH_take (i := 8) (oi := ⟨some 22, _, _, _, _, _⟩) (v := .pointer (some ⟨w.heap.size, q * 4 + r, none⟩)) rfl (by kernel_rfl) (by kernel_rfl) (by kernel_rfl) (fun _ _ _ h => h) (Or.inl ⟨by rfl, ?_⟩) (by assumption) ?_
          · (intro w9 hSw; (try dsimp only at hSw); go_simp)
          try simp only [Act.put, List.setIfInBounds_toArray, List.set_cons_zero, List.set_cons_succ]
          refine wpAnyH_take (i := 9) (oi := ⟨some 23, _, _, _, _, _⟩) (v := uv x) rfl (by kernel_rfl) (by kernel_rfl) (by kernel_rfl) (fun _ _ _ h => h) (Or.inl ⟨by rfl, ?_⟩) (by assumption) ?_
          · (intro w9 hSw; have q0 := (hSw.cell (q * 4 + r)).trans HGA.out; (try dsimp only at hSw); go_simp)
          try simp only [Act.put, List.setIfInBounds_toArray, List.set_cons_zero, List.set_cons_succ]
          refine wpAnyH_take (i := 10) (oi := ⟨some 24, _, _, _, _, _⟩) (v := .pointer (some ⟨w.heap.size + 1 + 1, c * 4, none⟩)) rfl (by kernel_rfl) (by kernel_rfl) (by kernel_rfl) (fun _ _ _ h => h) (Or.inl ⟨by rfl, ?_⟩) (by assumption) ?_
          · (intro w9 hSw; (try dsimp only at hSw); go_simp)
          try simp only [Act.put, List.setIfInBounds_toArray, List.set_cons_zero, List.set_cons_succ]
          refine wpAnyH_take (i := 11) (oi := ⟨some 25, _, _, _, _, _⟩) (v := .pointer (some ⟨w.heap.size + 1 + 1, c * 4 + r, none⟩)) rfl (by kernel_rfl) (by kernel_rfl) (by kernel_rfl) (fun _ _ _ h => h) (Or.inl ⟨by rfl, ?_⟩) (by assumption) ?_
          · (intro w9 hSw; (try dsimp only at hSw); go_simp)
          try simp only [Act.put, List.setIfInBounds_toArray, List.set_cons_zero, List.set_cons_succ]
          refine wpAnyH_ready (rs := [12]) (by kernel_rfl) (by simp) ?_
          refine AllReadyH.cons (o := ⟨none, _, _, _, _, _⟩) rfl (fun K9 hK9 => ?_) AllReadyH.nil
          go_simp
          refine hK9.out _ _ ?_ (fun hHeld => ?_)
          · exact B2.out
          clear hK9 K9
          try simp only [Act.put]
          refine wpAnyH_done (by kernel_rfl) ?_ _
          generalize (wr.setCell ⟨w.heap.size + 1 + 1, c * 4 + r, none⟩ (uv x)).drew = w3 at B2 Z2 P2 hb2
          clear hHeld hc1 hf1 B Z1 P hb
          go_wp2_with fail
          exact ⟨⟨r + 1, by omega, by go_num, B2, Z2, P2, hb2⟩, by simp [intOf]; omega⟩
        · obtain rfl : r = 4 := by omega
          have HSE : Hid (c * 4 + 4 = (c + 1) * 4) := Lib.hid (by omega)
          rw [HSE.out] at P
          go_wp2_with fail
          exact ⟨⟨c + 1, by omega, by go_num, B, Z1, P, hb⟩, by simp [intOf]; omega⟩
    · obtain rfl : c = 4 := by omega
      have hP := P.out
      rw [show 4 * 4 = 16 from rfl, cutL_all HN.out HZ.out] at hP
      have HPN := Lib.hid hP
      have HONE := Lib.hid (uvs_one N)
      clear hP P
      go_wp2_with (first | (refine wpList_load_row rfl _ _ rfl _ rfl _ _ _ _ HPN.out Try.underlying78 rfl (glen HN.out) ?_) | (refine wpList_store_mid rfl _ _ _ rfl _ _ (N.map uv).toArray rfl rfl (gthere Z1.out HZ.out HN.out) (glen HN.out) (all_oneCell_toArray HONE.out) ?_))
      have hW := Z1.out.whole (N.map uv) (by rw [List.length_map, uvs_size, HN.out, HZ.out])
      refine bodyPost_ret (v := .agg (N.map uv).toArray) (results_cell_row rfl _ _ _ _ _ _ _ rfl hW Try.underlying78 rfl (glen HN.out)) rfl ?_
      exact ⟨rfl, bw hb (by omega) _ _⟩
end Go.Proofs.Ytcecjoodlmpgnaa
/- The contract of a grid's mixed. -/
namespace Go.Proofs.Ytcecjoodlmpgnaa
open Go.RowKit

set_option maxRecDepth 100000 in
set_option maxHeartbeats 4000000 in
theorem gmixed_any (G : List UInt8) (rv : Value) (w : World) (hG : G.length = 16) :
    Calls Try.prog 85 #[.agg (G.map uv).toArray, rv] w fun e w' => e = .returned (.agg ((mixG G).map uv).toArray) ∧ Below w.heap.size w w' := by
  have HG := Lib.hid hG
  have HZ := Lib.hid (zerosL_len 16)
  have HGZ := Lib.hid gzero
  have HN : Hid ((mixG G).length = 16) := Lib.hid (tab_len _ _)
  have HI := Lib.hid (gcol_at G hG)
  have HU : Hid (∀ c, c < 4 → mixW [ub G (c * 4), ub G (c * 4 + 1), ub G (c * 4 + 2), ub G (c * 4 + 3)] = [ub (mixG G) (c * 4), ub (mixG G) (c * 4 + 1), ub (mixG G) (c * 4 + 2), ub (mixG G) (c * 4 + 3)]) := Lib.hid (mixG_col G)
  obtain ⟨N, hN⟩ : ∃ N, mixG G = N := ⟨_, rfl⟩
  rw [hN] at HN HU ⊢
  have H0 : Hid ((G.map uv).toArray = ((cutL (0 * 4) N G).map uv).toArray) := Lib.hid (by rw [Nat.zero_mul, cutL_zero])
  obtain ⟨Z, hZ⟩ : ∃ Z, zerosL 16 = Z := ⟨_, rfl⟩
  rw [hZ] at HZ HGZ
  clear hZ hN hG
  go_enter Try.func85, Try.ntmps85
  go_upto_region 1 with fail
  rw [HGZ.out]
  have B0 := Lib.hid ((Blk.new w 78 (G.map uv).toArray).alloc (.cells (Z.map uv).toArray 78))
  have Z0 : Hid (Blk ((w.alloc (.cells (G.map uv).toArray 78)).alloc (.cells (Z.map uv).toArray 78)) (w.heap.size + 1) 78 (Z.map uv).toArray) := Lib.hid (Blk.newAt (by simp) _ _)
  have hb0 := ba (ba (Below.refl w.heap.size w) (.cells (G.map uv).toArray 78)) (.cells (Z.map uv).toArray 78)
  generalize (w.alloc (.cells (G.map uv).toArray 78)).alloc (.cells (Z.map uv).toArray 78) = w1 at B0 Z0 hb0
  go_wp2_with (refine wpList_load_row rfl _ _ rfl _ rfl _ _ _ _ B0.out Try.underlying78 rfl (glen HG.out) ?_)
  rw [H0.out] at B0
  go_loopw [8] (fun iv wr => ∃ i : Nat, i ≤ 4 ∧ iv = .int .i64 i ∧ Hid (Blk wr (w.heap.size + 1) 78 (Z.map uv).toArray) ∧ Hid (Blk wr w.heap.size 78 ((cutL (i * 4) N G).map uv).toArray) ∧ Below w.heap.size w wr) (fun iv _ => 4 - (intOf iv).toNat)
  case atStart => exact ⟨0, Nat.zero_le _, rfl, Z0, B0, hb0⟩
  case round =>
    clear Z0 B0 hb0
    obtain ⟨c, hc, rfl, Z1, B, hb⟩ := hrel
    by_cases hlt : c < 4
    · have hcl : (c : Int) < 4 := by omega
      have c0 : (0 : Int) ≤ (c : Int) := by omega
      have hix := HI.out c hlt
      have hu := HU.out c hlt
      have HP := Lib.hid (fun (W : World) (t : TypeId) (hB : Blk W w.heap.size t ((cutL (c * 4) N G).map uv).toArray) => put4 hB HN.out HG.out (by omega))
      have HTH := Lib.hid (fun (W : World) (t : TypeId) (hB : Blk W w.heap.size t ((cutL (c * 4) N G).map uv).toArray) => hB.spare (o := c * 4) (n := 4) (by rw [uvs_size, cutL_len HN.out HG.out (by omega)]; omega))
      have HSE : Hid (c * 4 + 4 = (c + 1) * 4) := Lib.hid (by omega)
      obtain ⟨n0, hn0⟩ : ∃ n, ub N (c * 4) = n := ⟨_, rfl⟩
      obtain ⟨n1, hn1⟩ : ∃ n, ub N (c * 4 + 1) = n := ⟨_, rfl⟩
      obtain ⟨n2, hn2⟩ : ∃ n, ub N (c * 4 + 2) = n := ⟨_, rfl⟩
      obtain ⟨n3, hn3⟩ : ∃ n, ub N (c * 4 + 3) = n := ⟨_, rfl⟩
      rw [hn0, hn1, hn2, hn3] at hu HP
      have HM := Lib.hid (fun W => mixed_any (ub G (c * 4)) (ub G (c * 4 + 1)) (ub G (c * 4 + 2)) (ub G (c * 4 + 3)) W)
      rw [hu] at HM
      clear hu
      generalize ub G (c * 4) = x0 at hix HM
      generalize ub G (c * 4 + 1) = x1 at hix HM
      generalize ub G (c * 4 + 2) = x2 at hix HM
      generalize ub G (c * 4 + 3) = x3 at hix HM
      have hz1 := hb.size
      have hz2 := Z1.out.lt
      clear hn0 hn1 hn2 hn3 hlt hc
      go_wp2_with fail
      refine (HM.out _).mono ?_
      rintro e w2 ⟨rfl, hb2⟩
      have B2 := Lib.hid ((B.out.alloc (.cells #[uv x0, uv x1, uv x2, uv x3] 76)).below hb2)
      have Z2 := Lib.hid ((Z1.out.alloc (.cells #[uv x0, uv x1, uv x2, uv x3] 76)).below hb2)
      have hB2 := bt (ba hb (.cells #[uv x0, uv x1, uv x2, uv x3] 76)) hb2
      clear B Z1 hb hb2 hix
      have HT2 : Hid (w2.there w.heap.size (c * 4) (([n0, n1, n2, n3].map uv).toArray).size) := Lib.hid (HTH.out _ _ B2.out)
      have B3 := Lib.hid (HP.out _ _ B2.out)
      have Z3 := Lib.hid (Z2.out.far_ (k := w.heap.size + 1) (g := w.heap.size) (by omega) (c * 4) [uv n0, uv n1, uv n2, uv n3])
      have hb3 := bw hB2 (g := w.heap.size) (Nat.le_refl _) (c * 4) [uv n0, uv n1, uv n2, uv n3]
      go_upto_region 5 with (refine wpList_store_mid rfl _ _ _ rfl w.heap.size (c * 4) ([n0, n1, n2, n3].map uv).toArray rfl rfl HT2.out (by kernel_rfl) (all_oneCell_toArray (uvs_one [n0, n1, n2, n3])) ?_)
      have hset : w2.setCells w.heap.size (c * 4) [uv n0, uv n1, uv n2, uv n3] = w2.setCells w.heap.size (c * 4) ([n0, n1, n2, n3].map uv) := rfl
      rw [hset] at B3 Z3 hb3
      generalize w2.setCells w.heap.size (c * 4) ([n0, n1, n2, n3].map uv) = w3 at B3 Z3 hb3
      clear hset HT2 B2 Z2 hB2
      rw [HSE.out] at B3
      go_wp2_with fail
      exact ⟨⟨c + 1, by omega, by go_num, Z3, B3, hb3⟩, by simp [intOf]; omega⟩
    · obtain rfl : c = 4 := by omega
      have hB := B.out
      rw [show 4 * 4 = 16 from rfl, cutL_all HN.out HG.out] at hB
      have HBN := Lib.hid hB
      have HONE := Lib.hid (uvs_one N)
      clear hB B
      go_wp2_with (first | (refine wpList_load_row rfl _ _ rfl _ rfl _ _ _ _ HBN.out Try.underlying78 rfl (glen HN.out) ?_) | (refine wpList_store_mid rfl _ _ _ rfl _ _ (N.map uv).toArray rfl rfl (gthere Z1.out HZ.out HN.out) (glen HN.out) (all_oneCell_toArray HONE.out) ?_))
      have hW := Z1.out.whole (N.map uv) (by rw [List.length_map, uvs_size, HN.out, HZ.out])
      refine bodyPost_ret (v := .agg (N.map uv).toArray) (results_cell_row rfl _ _ _ _ _ _ _ rfl hW Try.underlying78 rfl (glen HN.out)) rfl ?_
      exact ⟨rfl, bw hb (by omega) _ _⟩
end Go.Proofs.Ytcecjoodlmpgnaa
/- The contract of a grid's told: its bytes as a text. -/
namespace Go.Proofs.Ytcecjoodlmpgnaa
open Go.RowKit

theorem text_of {W : World} {g n c : Nat} {t : TypeId} {L : List UInt8} (h : Blk W g t (L.map uv).toArray) (hl : L.length = n) : (convert 59 9 (.slice (some ⟨g, 0, none⟩) n c)).run Try.prog W = .ok (.string ⟨L.toArray⟩) W := by
  subst hl
  refine run_convert_bytes_back (P := Try.prog) W 59 9 5 ⟨g, 0, none⟩ c L Try.underlying59 Try.underlying5 Try.underlying9 (fun j hj => ?_)
  rw [Addr.add_mid, Nat.zero_add, h.cell]
  have : j < L.length := by simpa using hj
  simp [this]
theorem make_bytes (n m : Nat) (hn : n ≤ m) (hm : m ≤ 65536) (W : World) : (Instr.makeSlice 59 (.int .i64 (n : Int)) (.int .i64 (m : Int))).run Try.prog W = .ok (.slice (some ⟨W.heap.size, 0, none⟩) n m) (W.alloc (.cells ((zerosL (m * 1)).map uv).toArray 5)) := by
  obtain ⟨i0, hi, hz0, hz1, hz2⟩ := info_parts info5
  have h := run_makeSlice (P := Try.prog) W 59 5 i0 (.int .u8 0) Try.underlying59 hi hz0 .i64 .i64 n m (by omega) (by omega) (by rw [hz1]; omega) (by rw [hz2]; omega) (by omega)
  rw [hz1, made_zeros _ 1 _ rfl (by omega) (fun i hi => by
    obtain rfl : i = 0 := by omega
    rfl)] at h
  exact h

set_option maxRecDepth 100000 in
set_option maxHeartbeats 2000000 in
theorem told_any (G : List UInt8) (w : World) (hG : G.length = 16) :
    Calls Try.prog 43 #[.agg (G.map uv).toArray] w fun e w' => e = .returned (.string ⟨G.toArray⟩) ∧ Below w.heap.size w w' := by
  obtain ⟨i0, hi, hz0, hz1, hz2⟩ := info_parts info5
  have HG := Lib.hid hG
  have HZ := Lib.hid (zerosL_len 16)
  have hmk : ∀ W : World, (Instr.makeSlice 59 (.int .i64 0) (.int .i64 16)).run Try.prog W = .ok (.slice (some ⟨W.heap.size, 0, none⟩) 0 16) (W.alloc (.cells ((zerosL 16).map uv).toArray 5)) := make_bytes 0 16 (by omega) (by omega)
  have HI := Lib.hid (gcol_at G hG)
  have H0 : Hid (((zerosL 16).map uv).toArray = ((cutL (0 * 4) G (zerosL 16)).map uv).toArray) := Lib.hid (by rw [Nat.zero_mul, cutL_zero])
  obtain ⟨Z, hZ⟩ : ∃ Z, zerosL 16 = Z := ⟨_, rfl⟩
  rw [hZ] at HZ hmk H0
  clear hZ hG
  have B0 := Lib.hid ((Blk.new w 78 (G.map uv).toArray).alloc (.cells (Z.map uv).toArray 5))
  have Z0 : Hid (Blk ((w.alloc (.cells (G.map uv).toArray 78)).alloc (.cells (Z.map uv).toArray 5)) (w.heap.size + 1) 5 (Z.map uv).toArray) := Lib.hid (Blk.newAt (by simp) _ _)
  have hb0 := ba (ba (Below.refl w.heap.size w) (.cells (G.map uv).toArray 78)) (.cells (Z.map uv).toArray 5)
  have hmk1 := hmk (w.alloc (.cells (G.map uv).toArray 78))
  have hsz1 : (w.alloc (.cells (G.map uv).toArray 78)).heap.size = w.heap.size + 1 := by simp
  rw [hsz1] at hmk1
  generalize (w.alloc (.cells (G.map uv).toArray 78)).alloc (.cells (Z.map uv).toArray 5) = w1 at B0 Z0 hb0 hmk1
  rw [H0.out] at Z0
  clear hmk hsz1
  go_enter Try.func43, Try.ntmps43
  go_wp2_with (refine wpList_load_row rfl _ _ rfl _ rfl _ _ _ _ B0.out Try.underlying78 rfl (glen HG.out) ?_)
  go_loopw [3, 8] (fun ov iv wr => ∃ i : Nat, i ≤ 4 ∧ iv = .int .i64 i ∧ ov = .slice (some ⟨w.heap.size + 1, 0, none⟩) (i * 4) 16 ∧ Hid (Blk wr (w.heap.size + 1) 5 ((cutL (i * 4) G Z).map uv).toArray) ∧ Below w.heap.size w wr) (fun _ iv _ => 4 - (intOf iv).toNat)
  case atStart => exact ⟨0, Nat.zero_le _, rfl, rfl, Z0, hb0⟩
  case round =>
    clear Z0 B0 hb0 hmk1
    obtain ⟨c, hc, rfl, rfl, B, hb⟩ := hrel
    by_cases hlt : c < 4
    · have hcl : (c : Int) < 4 := by omega
      have c0 : (0 : Int) ≤ (c : Int) := by omega
      have hix := HI.out c hlt
      have HP := Lib.hid (fun (W : World) (t : TypeId) (hB : Blk W (w.heap.size + 1) t ((cutL (c * 4) G Z).map uv).toArray) => put4 hB HG.out HZ.out (by omega))
      have HSP := Lib.hid (fun (W : World) (t : TypeId) (hB : Blk W (w.heap.size + 1) t ((cutL (c * 4) G Z).map uv).toArray) => hB.spare (o := c * 4) (n := 4) (by rw [uvs_size, cutL_len HG.out HZ.out (by omega)]; omega))
      have HSE : Hid (c * 4 + 4 = (c + 1) * 4) := Lib.hid (by omega)
      generalize ub G (c * 4) = n0 at hix HP
      generalize ub G (c * 4 + 1) = n1 at hix HP
      generalize ub G (c * 4 + 2) = n2 at hix HP
      generalize ub G (c * 4 + 3) = n3 at hix HP
      have HNW := Lib.hid (news_new wr [uv n0, uv n1, uv n2, uv n3] 76)
      have HB2 := Lib.hid (B.out.alloc (.cells #[uv n0, uv n1, uv n2, uv n3] 76))
      have hb2 := ba hb (.cells #[uv n0, uv n1, uv n2, uv n3] 76)
      have HB3 := Lib.hid (HP.out _ _ HB2.out)
      have hb3 := bw hb2 (g := w.heap.size + 1) (by omega) (c * 4) [uv n0, uv n1, uv n2, uv n3]
      have hc16 : c * 4 + 4 ≤ 16 := by omega
      rw [HSE.out] at HB3
      clear hb B hc
      go_upto_region 6 with (at_builtin; refine wpList_append_room rfl (.tmp 11) (.tmp 12) 59 rfl 5 i0 1 Try.underlying59 hi hz1 (w.heap.size + 1) 0 (c * 4) 16 rfl ⟨wr.heap.size, 0, none⟩ 4 4 [uv n0, uv n1, uv n2, uv n3] rfl rfl HNW.out (uvs_one [n0, n1, n2, n3]) hc16 (by rw [Nat.zero_add, Nat.mul_one]; exact HSP.out _ _ HB2.out) ?_)
      generalize (wr.alloc (.cells #[uv n0, uv n1, uv n2, uv n3] 76)).setCells (w.heap.size + 1) (c * 4) [uv n0, uv n1, uv n2, uv n3] = w3 at HB3 hb3
      clear HB2 HSP HP HNW hb2 hix
      go_wp2_with fail
      exact ⟨⟨c + 1, by omega, by go_num, by rw [HSE.out], HB3, hb3⟩, by simp [intOf]; omega⟩
    · obtain rfl : c = 4 := by omega
      have hB := B.out
      rw [show 4 * 4 = 16 from rfl, cutL_all HG.out HZ.out] at hB
      have hcv := text_of (n := 16) (c := 16) hB HG.out
      have HBN := Lib.hid hB
      clear hB B
      go_wp2
      go_ret
      exact ⟨rfl, hb⟩
end Go.Proofs.Ytcecjoodlmpgnaa
/- The contracts of isBlock and isKey. -/
namespace Go.Proofs.Ytcecjoodlmpgnaa
open Go.RowKit

set_option maxRecDepth 100000 in
set_option maxHeartbeats 1000000 in
theorem isBlock_yes (l : List UInt8) (w : World) (hl : l.length = 16) : Calls Try.prog 38 #[.string ⟨l.toArray⟩] w fun e w' => e = .returned (.bool true) ∧ w = w' := by
  have hs := size_of l
  rw [hl] at hs
  go_enter Try.func38, Try.ntmps38
  go_wp2
  go_ret
  exact ⟨rfl, rfl⟩
set_option maxRecDepth 100000 in
set_option maxHeartbeats 1000000 in
theorem isBlock_no (l : List UInt8) (w : World) (hl : l.length ≠ 16) : Calls Try.prog 38 #[.string ⟨l.toArray⟩] w fun e w' => e = .returned (.bool false) ∧ w = w' := by
  have hs := size_of l
  obtain ⟨n, hn⟩ : ∃ n, l.length = n := ⟨_, rfl⟩
  rw [hn] at hs hl
  have h1 : ((n : Int) == 16) = false := by simp; omega
  have h2 : ¬ (n : Int) = 16 := by omega
  clear hn
  go_enter Try.func38, Try.ntmps38
  go_wp2
  go_ret
  exact ⟨rfl, rfl⟩
set_option maxRecDepth 100000 in
set_option maxHeartbeats 1000000 in
theorem isKey_yes (l : List UInt8) (w : World) (hl : l.length = 16 ∨ l.length = 32) : Calls Try.prog 37 #[.string ⟨l.toArray⟩] w fun e w' => e = .returned (.bool true) ∧ w = w' := by
  have hs := size_of l
  rcases hl with hl | hl
  all_goals
    rw [hl] at hs
    go_enter Try.func37, Try.ntmps37
    go_wp2
    go_ret
    exact ⟨rfl, rfl⟩
set_option maxRecDepth 100000 in
set_option maxHeartbeats 1000000 in
theorem isKey_no (l : List UInt8) (w : World) (hl : ¬ (l.length = 16 ∨ l.length = 32)) : Calls Try.prog 37 #[.string ⟨l.toArray⟩] w fun e w' => e = .returned (.bool false) ∧ w = w' := by
  have hs := size_of l
  obtain ⟨n, hn⟩ : ∃ n, l.length = n := ⟨_, rfl⟩
  rw [hn] at hs hl
  have h1 : ((n : Int) == 16) = false := by simp; omega
  have h2 : ((n : Int) == 32) = false := by simp; omega
  have h3 : ¬ n = 16 := by omega
  have h4 : ¬ n = 32 := by omega
  clear hn
  go_enter Try.func37, Try.ntmps37
  go_wp2
  go_ret
  exact ⟨rfl, rfl⟩
end Go.Proofs.Ytcecjoodlmpgnaa
