/- The contract of a grid's mixed. -/
import Derived.Test.YtodolffolbkaaaaAGridM
namespace Go.Proofs.Ytodolffolbkaaaa
open Go.RowKit

set_option maxRecDepth 100000 in
set_option maxHeartbeats 4000000 in
theorem gmixed_any (G : List UInt8) (rv : Value) (w : World) (hG : G.length = 16) :
    Calls Try.prog 31 #[.agg (G.map uv).toArray, rv] w fun e w' => e = .returned (.agg ((mixG G).map uv).toArray) ∧ Below w.heap.size w w' := by
  have HG := Lib.hid hG
  have HZ := Lib.hid (zerosL_len 16)
  have HGZ := Lib.hid gzero
  have HN : Hid ((mixG G).length = 16) := Lib.hid (tab_len _ _)
  have HI := Lib.hid (gcol_at G hG)
  have HU : Hid (∀ c, c < 4 → mixW [ub G (c * 4), ub G (c * 4 + 1), ub G (c * 4 + 2), ub G (c * 4 + 3)] = [ub (mixG G) (c * 4), ub (mixG G) (c * 4 + 1), ub (mixG G) (c * 4 + 2), ub (mixG G) (c * 4 + 3)]) := Lib.hid (mixG_col G)
  obtain ⟨N, hN⟩ : ∃ N, mixG G = N := ⟨_, rfl⟩
  rw [hN] at HN HU ⊢
  have H0 : Hid ((G.map uv).toArray = ((cutL (0 * 4) N G).map uv).toArray) := Lib.hid (by rw [Nat.zero_mul, cutL_zero])
  obtain ⟨Z, hZ⟩ : ∃ Z, zerosL 16 = Z := ⟨_, rfl⟩
  rw [hZ] at HZ HGZ
  clear hZ hN hG
  go_enter Try.func31, Try.ntmps31
  go_upto_region 1 with fail
  rw [HGZ.out]
  have B0 := Lib.hid ((Blk.new w 45 (G.map uv).toArray).alloc (.cells (Z.map uv).toArray 45))
  have Z0 : Hid (Blk ((w.alloc (.cells (G.map uv).toArray 45)).alloc (.cells (Z.map uv).toArray 45)) (w.heap.size + 1) 45 (Z.map uv).toArray) := Lib.hid (Blk.newAt (by simp) _ _)
  have hb0 := ba (ba (Below.refl w.heap.size w) (.cells (G.map uv).toArray 45)) (.cells (Z.map uv).toArray 45)
  generalize (w.alloc (.cells (G.map uv).toArray 45)).alloc (.cells (Z.map uv).toArray 45) = w1 at B0 Z0 hb0
  go_wp2_with (refine wpList_load_row rfl _ _ rfl _ rfl _ _ _ _ B0.out Try.underlying45 rfl (glen HG.out) ?_)
  rw [H0.out] at B0
  go_loopw [8] (fun iv wr => ∃ i : Nat, i ≤ 4 ∧ iv = .int .i64 i ∧ Hid (Blk wr (w.heap.size + 1) 45 (Z.map uv).toArray) ∧ Hid (Blk wr w.heap.size 45 ((cutL (i * 4) N G).map uv).toArray) ∧ Below w.heap.size w wr) (fun iv _ => 4 - (intOf iv).toNat)
  case atStart => exact ⟨0, Nat.zero_le _, rfl, Z0, B0, hb0⟩
  case round =>
    clear Z0 B0 hb0
    obtain ⟨c, hc, rfl, Z1, B, hb⟩ := hrel
    by_cases hlt : c < 4
    · have hcl : (c : Int) < 4 := by omega
      have c0 : (0 : Int) ≤ (c : Int) := by omega
      have hix := HI.out c hlt
      have hu := HU.out c hlt
      have HP := Lib.hid (fun (W : World) (t : TypeId) (hB : Blk W w.heap.size t ((cutL (c * 4) N G).map uv).toArray) => put4 hB HN.out HG.out (by omega))
      have HTH := Lib.hid (fun (W : World) (t : TypeId) (hB : Blk W w.heap.size t ((cutL (c * 4) N G).map uv).toArray) => hB.spare (o := c * 4) (n := 4) (by rw [uvs_size, cutL_len HN.out HG.out (by omega)]; omega))
      have HSE : Hid (c * 4 + 4 = (c + 1) * 4) := Lib.hid (by omega)
      obtain ⟨n0, hn0⟩ : ∃ n, ub N (c * 4) = n := ⟨_, rfl⟩
      obtain ⟨n1, hn1⟩ : ∃ n, ub N (c * 4 + 1) = n := ⟨_, rfl⟩
      obtain ⟨n2, hn2⟩ : ∃ n, ub N (c * 4 + 2) = n := ⟨_, rfl⟩
      obtain ⟨n3, hn3⟩ : ∃ n, ub N (c * 4 + 3) = n := ⟨_, rfl⟩
      rw [hn0, hn1, hn2, hn3] at hu HP
      have HM := Lib.hid (fun W => mixed_any (ub G (c * 4)) (ub G (c * 4 + 1)) (ub G (c * 4 + 2)) (ub G (c * 4 + 3)) W)
      rw [hu] at HM
      clear hu
      generalize ub G (c * 4) = x0 at hix HM
      generalize ub G (c * 4 + 1) = x1 at hix HM
      generalize ub G (c * 4 + 2) = x2 at hix HM
      generalize ub G (c * 4 + 3) = x3 at hix HM
      have hz1 := hb.size
      have hz2 := Z1.out.lt
      clear hn0 hn1 hn2 hn3 hlt hc
      go_wp2_with fail
      refine (HM.out _).mono ?_
      rintro e w2 ⟨rfl, hb2⟩
      have B2 := Lib.hid ((B.out.alloc (.cells #[uv x0, uv x1, uv x2, uv x3] 43)).below hb2)
      have Z2 := Lib.hid ((Z1.out.alloc (.cells #[uv x0, uv x1, uv x2, uv x3] 43)).below hb2)
      have hB2 := bt (ba hb (.cells #[uv x0, uv x1, uv x2, uv x3] 43)) hb2
      clear B Z1 hb hb2 hix
      have HT2 : Hid (w2.there w.heap.size (c * 4) (([n0, n1, n2, n3].map uv).toArray).size) := Lib.hid (HTH.out _ _ B2.out)
      have B3 := Lib.hid (HP.out _ _ B2.out)
      have Z3 := Lib.hid (Z2.out.far_ (k := w.heap.size + 1) (g := w.heap.size) (by omega) (c * 4) [uv n0, uv n1, uv n2, uv n3])
      have hb3 := bw hB2 (g := w.heap.size) (Nat.le_refl _) (c * 4) [uv n0, uv n1, uv n2, uv n3]
      go_upto_region 5 with (refine wpList_store_mid rfl _ _ _ rfl w.heap.size (c * 4) ([n0, n1, n2, n3].map uv).toArray rfl rfl HT2.out (by kernel_rfl) (all_oneCell_toArray (uvs_one [n0, n1, n2, n3])) ?_)
      have hset : w2.setCells w.heap.size (c * 4) [uv n0, uv n1, uv n2, uv n3] = w2.setCells w.heap.size (c * 4) ([n0, n1, n2, n3].map uv) := rfl
      rw [hset] at B3 Z3 hb3
      generalize w2.setCells w.heap.size (c * 4) ([n0, n1, n2, n3].map uv) = w3 at B3 Z3 hb3
      clear hset HT2 B2 Z2 hB2
      rw [HSE.out] at B3
      go_wp2_with fail
      exact ⟨⟨c + 1, by omega, by go_num, Z3, B3, hb3⟩, by simp [intOf]; omega⟩
    · obtain rfl : c = 4 := by omega
      have hB := B.out
      rw [show 4 * 4 = 16 from rfl, cutL_all HN.out HG.out] at hB
      have HBN := Lib.hid hB
      have HONE := Lib.hid (uvs_one N)
      clear hB B
      go_wp2_with (first | (refine wpList_load_row rfl _ _ rfl _ rfl _ _ _ _ HBN.out Try.underlying45 rfl (glen HN.out) ?_) | (refine wpList_store_mid rfl _ _ _ rfl _ _ (N.map uv).toArray rfl rfl (gthere Z1.out HZ.out HN.out) (glen HN.out) (all_oneCell_toArray HONE.out) ?_))
      have hW := Z1.out.whole (N.map uv) (by rw [List.length_map, uvs_size, HN.out, HZ.out])
      refine bodyPost_ret (v := .agg (N.map uv).toArray) (results_cell_row rfl _ _ _ _ _ _ _ rfl hW Try.underlying45 rfl (glen HN.out)) rfl ?_
      exact ⟨rfl, bw hb (by omega) _ _⟩
end Go.Proofs.Ytodolffolbkaaaa
