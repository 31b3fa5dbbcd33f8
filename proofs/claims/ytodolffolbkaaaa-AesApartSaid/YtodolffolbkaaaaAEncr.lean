/- The contract of a grid's encrypted. -/
import Derived.Test.YtodolffolbkaaaaAEnc
namespace Go.Proofs.Ytodolffolbkaaaa
open Go.RowKit

theorem fcall_any (f : Nat) (hf : f = 57 ∨ f = 29 ∨ f = 30 ∨ f = 31) (G K : List UInt8) (r gb : Nat) (w : World) (hG : G.length = 16) (hK : K.length = 16) (hr : Blk w r 52 (rnd K gb)) (hx : Blk w gb 5 bxs) :
    Calls Try.prog f #[.agg (G.map uv).toArray, .pointer (some ⟨r, 0, none⟩)] w fun e w' => e = .returned (.agg ((semF K f G).map uv).toArray) ∧ Below w.heap.size w w' := by
  rcases hf with rfl | rfl | rfl | rfl
  · exact gkeyed_any G K r gb w hG hK hr
  · exact gboxed_any G K r gb w hG hK hr hx
  · exact gturned_any G _ w hG
  · exact gmixed_any G _ w hG
theorem keyAt_len (F : List UInt8) (i : Nat) : (keyAt F i).length = 16 := tab_len _ _
theorem key_range {w : World} {g n i : Nat} {t : TypeId} {F : List UInt8} (h : Blk w g t (F.map uv).toArray) (hF : F.length = n * 16) (hi : i < n) : w.rangeAt g (i * 16) ((keyAt F i).map uv) := fun j v hv => by
  have hj : j < 16 := by
    have := (List.getElem?_eq_some_iff.1 hv).1
    rw [List.length_map, keyAt_len] at this
    exact this
  have e := row_at (L := keyAt F i) (i := j) (by rw [keyAt_len]; exact hj)
  rw [List.getElem?_toArray, hv] at e
  rw [h.cell, row_at (by omega), e]
  unfold keyAt
  rw [ub_tab _ hj, Nat.mul_comm]
theorem fsOf_len (i last : Nat) : (fsOf i last).length ≤ 4 := by
  unfold fsOf
  split
  · decide
  · split <;> decide
theorem encN_succ (last : Nat) (F s : List UInt8) (i : Nat) : encN last F s (i + 1) = applyF (keyAt F i) (fsOf i last) (encN last F s i) := roundE_is _ _ _ _

theorem fold_size (l : List (Value × Nat)) : ∀ a : Array Value, (List.foldl (fun (cs : Array Value) (x : Value × Nat) => cs.setIfInBounds x.snd x.fst) a l).size = a.size := by
  induction l with
  | nil => intro a; rfl
  | cons x l ih => intro a; rw [List.foldl_cons, ih]; simp
theorem build_size (K : List UInt8) : (List.foldl (fun (cs : Array Value) (x : Value × Nat) => cs.setIfInBounds x.snd x.fst) #[.int .u8 0, .int .u8 0, .int .u8 0, .int .u8 0, .int .u8 0, .int .u8 0, .int .u8 0, .int .u8 0, .int .u8 0, .int .u8 0, .int .u8 0, .int .u8 0, .int .u8 0, .int .u8 0, .int .u8 0, .int .u8 0, .slice none 0 0] (List.map uv K).zipIdx).size = 17 := fold_size _ _
theorem build_rnd {K : List UInt8} (gb : Nat) (h : K.length = 16) : (List.foldl (fun (cs : Array Value) (x : Value × Nat) => cs.setIfInBounds x.snd x.fst) #[.int .u8 0, .int .u8 0, .int .u8 0, .int .u8 0, .int .u8 0, .int .u8 0, .int .u8 0, .int .u8 0, .int .u8 0, .int .u8 0, .int .u8 0, .int .u8 0, .int .u8 0, .int .u8 0, .int .u8 0, .int .u8 0, .slice none 0 0] (List.map uv K).zipIdx).setIfInBounds 16 (.slice (some ⟨gb, 0, none⟩) 256 256) = rnd K gb := by
  obtain ⟨g0, g1, g2, g3, g4, g5, g6, g7, g8, g9, g10, g11, g12, g13, g14, g15, rfl⟩ := list16 h
  kernel_rfl

set_option maxRecDepth 100000 in
set_option maxHeartbeats 4000000 in
theorem encrypted_any (G F : List UInt8) (gk gb rounds last : Nat) (w : World) (hG : G.length = 16) (hF : F.length = rounds * 16) (hR : rounds ≤ 15) (hl : last + 1 = rounds) (hk : Blk w gk 45 (F.map uv).toArray) (hx : Blk w gb 5 bxs) :
    Calls Try.prog 38 #[.agg (G.map uv).toArray, .slice (some ⟨gk, 0, none⟩) rounds rounds, .slice (some ⟨gb, 0, none⟩) 256 256] w fun e w' => e = .returned (.agg ((encN last F G rounds).map uv).toArray) ∧ Below w.heap.size w w' := by
  have HK := Lib.hid hk
  have HX := Lib.hid hx
  have HF := Lib.hid hF
  have HRR : Hid (rounds ≤ 15 ∧ last + 1 = rounds) := Lib.hid ⟨hR, hl⟩
  have HEL := Lib.hid (fun i => encN_len last F G hG i)
  have HES := Lib.hid (fun i => encN_succ last F G i)
  obtain ⟨N, hN⟩ : ∃ N, encN last F G rounds = N := ⟨_, rfl⟩
  have HNN : Hid (N.length = 16) := Lib.hid (by rw [← hN]; exact HEL.out rounds)
  have HNE := Lib.hid hN
  rw [hN]
  clear hN
  have HGZ := Lib.hid gzero
  have HZ := Lib.hid (zerosL_len 16)
  have HE0 : Hid (encN last F G 0 = G) := Lib.hid rfl
  have hll : (rounds : Int) - 1 = (last : Int) := by omega
  have hr15 : (rounds : Int) ≤ 15 := by omega
  obtain ⟨Z, hZ⟩ : ∃ Z, zerosL 16 = Z := ⟨_, rfl⟩
  rw [hZ] at HZ HGZ
  clear hZ hG hF hR hl hk hx
  go_enter Try.func38, Try.ntmps38
  go_upto_region 1 with fail
  rw [HGZ.out]
  have B0 := Lib.hid ((Blk.new w 45 (G.map uv).toArray).alloc (.cells (Z.map uv).toArray 45))
  have Z0 : Hid (Blk ((w.alloc (.cells (G.map uv).toArray 45)).alloc (.cells (Z.map uv).toArray 45)) (w.heap.size + 1) 45 (Z.map uv).toArray) := Lib.hid (Blk.newAt (by simp) _ _)
  have hb0 := ba (ba (Below.refl w.heap.size w) (.cells (G.map uv).toArray 45)) (.cells (Z.map uv).toArray 45)
  generalize (w.alloc (.cells (G.map uv).toArray 45)).alloc (.cells (Z.map uv).toArray 45) = w1 at B0 Z0 hb0
  rw [← HE0.out] at B0
  go_wp2_with fail
  go_loopw [14] (fun iv wr => ∃ i : Nat, i ≤ rounds ∧ iv = .int .i64 i ∧ Hid (Blk wr (w.heap.size + 1) 45 (Z.map uv).toArray) ∧ Hid (Blk wr w.heap.size 45 ((encN last F G i).map uv).toArray) ∧ Below w.heap.size w wr) (fun iv _ => rounds - (intOf iv).toNat)
  case atStart => exact ⟨0, Nat.zero_le _, rfl, Z0, B0, hb0⟩
  case round =>
    clear Z0 B0 hb0
    obtain ⟨i, hi, rfl, Z1, B, hb⟩ := hrel
    by_cases hlt : i < rounds
    · have hil : (i : Int) < (rounds : Int) := by omega
      have i0 : (0 : Int) ≤ (i : Int) := by omega
      have hes := HES.out i
      have HSL := Lib.hid (HEL.out i)
      generalize encN last F G i = s at hes B HSL
      have HRG := Lib.hid (key_range (HK.out.below hb) HF.out hlt)
      have HKL := Lib.hid (keyAt_len F i)
      obtain ⟨K, hK⟩ : ∃ K, keyAt F i = K := ⟨_, rfl⟩
      rw [hK] at hes HRG HKL
      have HFM := Lib.hid (fsOf_mem i last)
      have hfl := fsOf_len i last
      have HST := Lib.hid (fun W => steps_any i last W (by omega) (by have := HRR.out; omega))
      obtain ⟨fs, hfs⟩ : ∃ fs, fsOf i last = fs := ⟨_, rfl⟩
      rw [hfs] at hes HFM HST hfl
      have HES1 := Lib.hid hes
      clear hes hK hfs
      have HNB := Lib.hid (Blk.new wr 45 #[.int .u8 0, .int .u8 0, .int .u8 0, .int .u8 0, .int .u8 0, .int .u8 0, .int .u8 0, .int .u8 0, .int .u8 0, .int .u8 0, .int .u8 0, .int .u8 0, .int .u8 0, .int .u8 0, .int .u8 0, .int .u8 0])
      have HNT : Hid ((wr.alloc (.cells #[.int .u8 0, .int .u8 0, .int .u8 0, .int .u8 0, .int .u8 0, .int .u8 0, .int .u8 0, .int .u8 0, .int .u8 0, .int .u8 0, .int .u8 0, .int .u8 0, .int .u8 0, .int .u8 0, .int .u8 0, .int .u8 0] 45)).there wr.heap.size 0 (K.map uv).toArray.size) := Lib.hid (HNB.out.there (by rw [uvs_size, HKL.out]; exact Nat.le_refl 16))
      have KNB : Hid (Blk ((wr.alloc (.cells #[.int .u8 0, .int .u8 0, .int .u8 0, .int .u8 0, .int .u8 0, .int .u8 0, .int .u8 0, .int .u8 0, .int .u8 0, .int .u8 0, .int .u8 0, .int .u8 0, .int .u8 0, .int .u8 0, .int .u8 0, .int .u8 0] 45)).setCells wr.heap.size 0 (K.map uv)) wr.heap.size 45 (K.map uv).toArray) := Lib.hid (HNB.out.whole (K.map uv) (by rw [List.length_map, HKL.out]; rfl))
      have hzb := hb.size
      have hbl := B.out.lt
      have hzl := Z1.out.lt
      have B2 := Lib.hid ((B.out.alloc (.cells #[.int .u8 0, .int .u8 0, .int .u8 0, .int .u8 0, .int .u8 0, .int .u8 0, .int .u8 0, .int .u8 0, .int .u8 0, .int .u8 0, .int .u8 0, .int .u8 0, .int .u8 0, .int .u8 0, .int .u8 0, .int .u8 0] 45)).far_ (g := wr.heap.size) (by omega) 0 (K.map uv))
      have Z2 := Lib.hid ((Z1.out.alloc (.cells #[.int .u8 0, .int .u8 0, .int .u8 0, .int .u8 0, .int .u8 0, .int .u8 0, .int .u8 0, .int .u8 0, .int .u8 0, .int .u8 0, .int .u8 0, .int .u8 0, .int .u8 0, .int .u8 0, .int .u8 0, .int .u8 0] 45)).far_ (g := wr.heap.size) (by omega) 0 (K.map uv))
      have hb2 := bw (ba hb (.cells #[.int .u8 0, .int .u8 0, .int .u8 0, .int .u8 0, .int .u8 0, .int .u8 0, .int .u8 0, .int .u8 0, .int .u8 0, .int .u8 0, .int .u8 0, .int .u8 0, .int .u8 0, .int .u8 0, .int .u8 0, .int .u8 0] 45)) (g := wr.heap.size) (by omega) 0 (K.map uv)
      go_upto_region 4 with (first | (refine wpList_load_mid rfl _ _ rfl gk (i * 16) rfl (K.map uv) _ HRG.out Try.underlying45 rfl (by rw [List.length_map, HKL.out]; kernel_rfl) ?_) | (refine wpList_store_mid rfl _ _ _ rfl wr.heap.size 0 (K.map uv).toArray rfl rfl HNT.out (glen HKL.out) (all_oneCell_toArray (uvs_one K)) ?_))
      generalize (wr.alloc (.cells #[.int .u8 0, .int .u8 0, .int .u8 0, .int .u8 0, .int .u8 0, .int .u8 0, .int .u8 0, .int .u8 0, .int .u8 0, .int .u8 0, .int .u8 0, .int .u8 0, .int .u8 0, .int .u8 0, .int .u8 0, .int .u8 0] 45)).setCells wr.heap.size 0 (K.map uv) = w2 at KNB B2 Z2 hb2
      obtain ⟨p, hp⟩ : ∃ p, wr.heap.size = p := ⟨_, rfl⟩
      rw [hp] at KNB ⊢
      clear HNB HNT hp hzb hbl hzl B Z1 hb HRG
      have hbs := build_size K
      have hkl := HKL.out
      have HBR := Lib.hid (build_rnd gb HKL.out)
      go_upto_region 5 with (refine wpList_load_row rfl _ _ rfl _ rfl _ _ _ _ KNB.out Try.underlying45 rfl (glen HKL.out) ?_)
      rw [HBR.out]
      have hbl := B2.out.lt
      have hzl := Z2.out.lt
      have R3 := Lib.hid (Blk.new w2 52 (rnd K gb))
      have B3 := Lib.hid (B2.out.alloc (.cells (rnd K gb) 52))
      have Z3 := Lib.hid (Z2.out.alloc (.cells (rnd K gb) 52))
      have hb3 := ba hb2 (.cells (rnd K gb) 52)
      obtain ⟨r, hr⟩ : ∃ r, w2.heap.size = r := ⟨_, rfl⟩
      rw [hr] at R3 hbl hzl ⊢
      generalize w2.alloc (.cells (rnd K gb) 52) = w3 at R3 B3 Z3 hb3
      have hwl : Hid (IntKind.i64.wrap (last : Int) = (last : Int)) := Lib.hid (by rw [IntKind.wrap_i64]; omega)
      clear hr KNB B2 Z2 hb2 hbs HBR w2 hkl
      go_wp2_with fail
      refine (HST.out _).mono ?_
      rintro e w4 ⟨gf, rfl, hgf, hFB, hb4⟩
      have R4 := Lib.hid (R3.out.below hb4)
      have B4 := Lib.hid (B3.out.below hb4)
      have Z4 := Lib.hid (Z3.out.below hb4)
      have F4 := Lib.hid hFB
      have hB4 := bt hb3 hb4
      have hgw : w.heap.size < gf := by have := B3.out.lt; omega
      have HT0 : Hid (applyF K (fs.take 0) s = s) := Lib.hid rfl
      have HFC := Lib.hid (fcell_at fs)
      have HAT := Lib.hid (applyF_take K fs s)
      have HAL := Lib.hid (fun k => applyF_len K (fs.take k) s HSL.out)
      have HALL : Hid (applyF K (fs.take fs.length) s = applyF K fs s) := Lib.hid (by rw [List.take_of_length_le (Nat.le_refl _)])
      rw [← HT0.out] at B4
      obtain ⟨n, hn⟩ : ∃ n, fs.length = n := ⟨_, rfl⟩
      rw [hn] at HFC HAT HFM HALL hfl
      rw [hn]
      clear hn hFB hb4 hb3 R3 B3 Z3 hgf HST
      go_wp2_with fail
      go_loopw [29] (fun kv wx => ∃ k : Nat, k ≤ n ∧ kv = .int .i64 k ∧ Hid (Blk wx (w.heap.size + 1) 45 (Z.map uv).toArray) ∧ Hid (Blk wx w.heap.size 45 ((applyF K (fs.take k) s).map uv).toArray) ∧ Hid (Blk wx r 52 (rnd K gb)) ∧ Hid (Blk wx gf 62 (fs.map fcell).toArray) ∧ Below w.heap.size w wx) (fun kv _ => n - (intOf kv).toNat)
      case atStart => exact ⟨0, Nat.zero_le _, rfl, Z4, B4, R4, F4, hB4⟩
      case round =>
        clear Z4 B4 R4 F4 hB4
        obtain ⟨k, hk, rfl, Z5, B5, R5, F5, hb5⟩ := hrel
        by_cases hkn : k < n
        · have hki : (k : Int) < (n : Int) := by omega
          have k0 : (0 : Int) ≤ (k : Int) := by omega
          have hcf : wr.cell? ⟨gf, k, none⟩ = some (.func (.func (fs.getD k 0)) #[] #[]) := (F5.out.cell k).trans (HFC.out k hkn)
          have HFX := Lib.hid (fun (S : List UInt8) (hS : S.length = 16) (W : World) (hW : Blk W r 52 (rnd K gb)) (hWx : Blk W gb 5 bxs) => fcall_any (fs.getD k 0) (HFM.out k hkn) S K r gb W hS HKL.out hW hWx)
          have HAK := HAT.out k hkn
          have HSK := Lib.hid (HAL.out k)
          have HSN := Lib.hid (HAL.out (k + 1))
          have hfm := HFM.out k hkn
          generalize fs.getD k 0 = f at hcf HFX HAK hfm
          generalize applyF K (fs.take k) s = S at B5 HAK HSK
          have HFS := Lib.hid (HFX.out S HSK.out)
          rw [← HAK] at HFS
          obtain ⟨S', hS'⟩ : ∃ S', applyF K (fs.take (k + 1)) s = S' := ⟨_, rfl⟩
          rw [hS'] at HFS HSN
          have HS' := Lib.hid hS'
          clear hS' HAK HFX
          rcases hfm with rfl | rfl | rfl | rfl
          all_goals
            go_upto_region 8 with fail
            go_wp2_with (refine wpList_load_row rfl _ _ rfl _ rfl _ _ _ _ B5.out Try.underlying45 rfl (glen HSK.out) ?_)
            refine (HFS.out _ R5.out (HX.out.below hb5)).mono ?_
            rintro e w6 ⟨rfl, hb6⟩
            have B6 := Lib.hid (B5.out.below hb6)
            have hbl6 := B6.out.lt
            have HT6 := Lib.hid (gthere (M := S') B6.out HSK.out HSN.out)
            have B7 : Hid (Blk (w6.setCells w.heap.size 0 (S'.map uv)) w.heap.size 45 (S'.map uv).toArray) := Lib.hid (B6.out.whole (S'.map uv) (by rw [List.length_map, uvs_size, HSK.out, HSN.out]))
            have Z7 := Lib.hid ((Z5.out.below hb6).far_ (g := w.heap.size) (by omega) 0 (S'.map uv))
            have R7 := Lib.hid ((R5.out.below hb6).far_ (g := w.heap.size) (by omega) 0 (S'.map uv))
            have F7 := Lib.hid ((F5.out.below hb6).far_ (g := w.heap.size) (by omega) 0 (S'.map uv))
            have hb7 := bw (bt hb5 hb6) (g := w.heap.size) (Nat.le_refl _) 0 (S'.map uv)
            clear B5 Z5 R5 F5 hb5 hb6 hcf
            simp only []
            go_upto_region 9 with (refine wpList_store_mid rfl _ _ _ rfl w.heap.size 0 (S'.map uv).toArray rfl rfl HT6.out (glen HSN.out) (all_oneCell_toArray (uvs_one S')) ?_)
            generalize w6.setCells w.heap.size 0 (S'.map uv) = w7 at B7 Z7 R7 F7 hb7
            rw [← HS'.out] at B7
            clear HT6 B6
            go_wp2_with fail
            exact ⟨⟨k + 1, by omega, by go_num, Z7, B7, R7, F7, hb7⟩, by simp [intOf]; omega⟩
        · obtain rfl : k = n := by omega
          rw [HALL.out, ← HES1.out] at B5
          go_wp2_with fail
          exact ⟨⟨i + 1, by omega, by go_num, Z5, B5, hb5⟩, by simp [intOf]; omega⟩
    · obtain rfl : i = rounds := by omega
      rw [HNE.out] at B
      have HONE := Lib.hid (uvs_one N)
      go_wp2_with (first | (refine wpList_load_row rfl _ _ rfl _ rfl _ _ _ _ B.out Try.underlying45 rfl (glen HNN.out) ?_) | (refine wpList_store_mid rfl _ _ _ rfl _ _ (N.map uv).toArray rfl rfl (gthere Z1.out HZ.out HNN.out) (glen HNN.out) (all_oneCell_toArray HONE.out) ?_))
      have hW := Z1.out.whole (N.map uv) (by rw [List.length_map, uvs_size, HNN.out, HZ.out])
      refine bodyPost_ret (v := .agg (N.map uv).toArray) (results_cell_row rfl _ _ _ _ _ _ _ rfl hW Try.underlying45 rfl (glen HNN.out)) rfl ?_
      exact ⟨rfl, bw hb (by omega) _ _⟩
end Go.Proofs.Ytodolffolbkaaaa
