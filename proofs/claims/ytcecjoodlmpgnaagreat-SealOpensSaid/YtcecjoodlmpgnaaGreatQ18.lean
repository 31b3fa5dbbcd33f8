/- Texts of this seat, one behind the other: AEncr, AEncT, ARBase, ARTurn, ARXor. -/
import Derived.BigQuiet
import Derived.Test.YtcecjoodlmpgnaaGreatQ14
import Derived.Test.YtcecjoodlmpgnaaGreatQ17
/- The contract of a grid's encrypted. -/
namespace Go.Proofs.YtcecjoodlmpgnaaGreat
open Go.RowKit

theorem fcall_any (f : Nat) (hf : f = 116 ∨ f = 117 ∨ f = 118 ∨ f = 119) (G K : List UInt8) (r gb : Nat) (w : World) (hG : G.length = 16) (hK : K.length = 16) (hr : Blk w r 124 (rnd K gb)) (hx : Blk w gb 5 bxs) :
    Calls Tryz.prog f #[.agg (G.map uv).toArray, .pointer (some ⟨r, 0, none⟩)] w fun e w' => e = .returned (.agg ((semF K f G).map uv).toArray) ∧ Below w.heap.size w w' := by
  rcases hf with rfl | rfl | rfl | rfl
  · exact gkeyed_any G K r gb w hG hK hr
  · exact gboxed_any G K r gb w hG hK hr hx
  · exact gturned_any G _ w hG
  · exact gmixed_any G _ w hG
theorem keyAt_len (F : List UInt8) (i : Nat) : (keyAt F i).length = 16 := tab_len _ _
theorem key_range {w : World} {g n i : Nat} {t : TypeId} {F : List UInt8} (h : Blk w g t (F.map uv).toArray) (hF : F.length = n * 16) (hi : i < n) : w.rangeAt g (i * 16) ((keyAt F i).map uv) := fun j v hv => by
  have hj : j < 16 := by
    have := (List.getElem?_eq_some_iff.1 hv).1
    rw [List.length_map, keyAt_len] at this
    exact this
  have e := row_at (L := keyAt F i) (i := j) (by rw [keyAt_len]; exact hj)
  rw [List.getElem?_toArray, hv] at e
  rw [h.cell, row_at (by omega), e]
  unfold keyAt
  rw [ub_tab _ hj, Nat.mul_comm]
theorem fsOf_len (i last : Nat) : (fsOf i last).length ≤ 4 := by
  unfold fsOf
  split
  · decide
  · split <;> decide
theorem encN_succ (last : Nat) (F s : List UInt8) (i : Nat) : encN last F s (i + 1) = applyF (keyAt F i) (fsOf i last) (encN last F s i) := roundE_is _ _ _ _

theorem fold_size (l : List (Value × Nat)) : ∀ a : Array Value, (List.foldl (fun (cs : Array Value) (x : Value × Nat) => cs.setIfInBounds x.snd x.fst) a l).size = a.size := by
  induction l with
  | nil => intro a; rfl
  | cons x l ih => intro a; rw [List.foldl_cons, ih]; simp
theorem build_size (K : List UInt8) : (List.foldl (fun (cs : Array Value) (x : Value × Nat) => cs.setIfInBounds x.snd x.fst) #[.int .u8 0, .int .u8 0, .int .u8 0, .int .u8 0, .int .u8 0, .int .u8 0, .int .u8 0, .int .u8 0, .int .u8 0, .int .u8 0, .int .u8 0, .int .u8 0, .int .u8 0, .int .u8 0, .int .u8 0, .int .u8 0, .slice none 0 0] (List.map uv K).zipIdx).size = 17 := fold_size _ _
theorem build_rnd {K : List UInt8} (gb : Nat) (h : K.length = 16) : (List.foldl (fun (cs : Array Value) (x : Value × Nat) => cs.setIfInBounds x.snd x.fst) #[.int .u8 0, .int .u8 0, .int .u8 0, .int .u8 0, .int .u8 0, .int .u8 0, .int .u8 0, .int .u8 0, .int .u8 0, .int .u8 0, .int .u8 0, .int .u8 0, .int .u8 0, .int .u8 0, .int .u8 0, .int .u8 0, .slice none 0 0] (List.map uv K).zipIdx).setIfInBounds 16 (.slice (some ⟨gb, 0, none⟩) 256 256) = rnd K gb := by
  obtain ⟨g0, g1, g2, g3, g4, g5, g6, g7, g8, g9, g10, g11, g12, g13, g14, g15, rfl⟩ := list16 h
  kernel_rfl

set_option maxRecDepth 100000 in
set_option maxHeartbeats 4000000 in
theorem encrypted_any (G F : List UInt8) (gk gb rounds last : Nat) (w : World) (hG : G.length = 16) (hF : F.length = rounds * 16) (hR : rounds ≤ 15) (hl : last + 1 = rounds) (hk : Blk w gk 91 (F.map uv).toArray) (hx : Blk w gb 5 bxs) :
    Calls Tryz.prog 58 #[.agg (G.map uv).toArray, .slice (some ⟨gk, 0, none⟩) rounds rounds, .slice (some ⟨gb, 0, none⟩) 256 256] w fun e w' => e = .returned (.agg ((encN last F G rounds).map uv).toArray) ∧ Below w.heap.size w w' := by
  have HK := Lib.hid hk
  have HX := Lib.hid hx
  have HF := Lib.hid hF
  have HRR : Hid (rounds ≤ 15 ∧ last + 1 = rounds) := Lib.hid ⟨hR, hl⟩
  have HEL := Lib.hid (fun i => encN_len last F G hG i)
  have HES := Lib.hid (fun i => encN_succ last F G i)
  obtain ⟨N, hN⟩ : ∃ N, encN last F G rounds = N := ⟨_, rfl⟩
  have HNN : Hid (N.length = 16) := Lib.hid (by rw [← hN]; exact HEL.out rounds)
  have HNE := Lib.hid hN
  rw [hN]
  clear hN
  have HGZ := Lib.hid gzero
  have HZ := Lib.hid (zerosL_len 16)
  have HE0 : Hid (encN last F G 0 = G) := Lib.hid rfl
  have hll : (rounds : Int) - 1 = (last : Int) := by omega
  have hr15 : (rounds : Int) ≤ 15 := by omega
  obtain ⟨Z, hZ⟩ : ∃ Z, zerosL 16 = Z := ⟨_, rfl⟩
  rw [hZ] at HZ HGZ
  clear hZ hG hF hR hl hk hx
  go_enter Tryz.func58, Tryz.ntmps58
  go_upto_region 1 with fail
  rw [HGZ.out]
  have B0 := Lib.hid ((Blk.new w 91 (G.map uv).toArray).alloc (.cells (Z.map uv).toArray 91))
  have Z0 : Hid (Blk ((w.alloc (.cells (G.map uv).toArray 91)).alloc (.cells (Z.map uv).toArray 91)) (w.heap.size + 1) 91 (Z.map uv).toArray) := Lib.hid (Blk.newAt (by simp) _ _)
  have hb0 := ba (ba (Below.refl w.heap.size w) (.cells (G.map uv).toArray 91)) (.cells (Z.map uv).toArray 91)
  generalize (w.alloc (.cells (G.map uv).toArray 91)).alloc (.cells (Z.map uv).toArray 91) = w1 at B0 Z0 hb0
  rw [← HE0.out] at B0
  go_wp2_with fail
  go_loopw [14] (fun iv wr => ∃ i : Nat, i ≤ rounds ∧ iv = .int .i64 i ∧ Hid (Blk wr (w.heap.size + 1) 91 (Z.map uv).toArray) ∧ Hid (Blk wr w.heap.size 91 ((encN last F G i).map uv).toArray) ∧ Below w.heap.size w wr) (fun iv _ => rounds - (intOf iv).toNat)
  case atStart => exact ⟨0, Nat.zero_le _, rfl, Z0, B0, hb0⟩
  case round =>
    clear Z0 B0 hb0
    obtain ⟨i, hi, rfl, Z1, B, hb⟩ := hrel
    by_cases hlt : i < rounds
    · have hil : (i : Int) < (rounds : Int) := by omega
      have i0 : (0 : Int) ≤ (i : Int) := by omega
      have hes := HES.out i
      have HSL := Lib.hid (HEL.out i)
      generalize encN last F G i = s at hes B HSL
      have HRG := Lib.hid (key_range (HK.out.below hb) HF.out hlt)
      have HKL := Lib.hid (keyAt_len F i)
      obtain ⟨K, hK⟩ : ∃ K, keyAt F i = K := ⟨_, rfl⟩
      rw [hK] at hes HRG HKL
      have HFM := Lib.hid (fsOf_mem i last)
      have hfl := fsOf_len i last
      have HST := Lib.hid (fun W => steps_any i last W (by omega) (by have := HRR.out; omega))
      obtain ⟨fs, hfs⟩ : ∃ fs, fsOf i last = fs := ⟨_, rfl⟩
      rw [hfs] at hes HFM HST hfl
      have HES1 := Lib.hid hes
      clear hes hK hfs
      have HNB := Lib.hid (Blk.new wr 91 #[.int .u8 0, .int .u8 0, .int .u8 0, .int .u8 0, .int .u8 0, .int .u8 0, .int .u8 0, .int .u8 0, .int .u8 0, .int .u8 0, .int .u8 0, .int .u8 0, .int .u8 0, .int .u8 0, .int .u8 0, .int .u8 0])
      have HNT : Hid ((wr.alloc (.cells #[.int .u8 0, .int .u8 0, .int .u8 0, .int .u8 0, .int .u8 0, .int .u8 0, .int .u8 0, .int .u8 0, .int .u8 0, .int .u8 0, .int .u8 0, .int .u8 0, .int .u8 0, .int .u8 0, .int .u8 0, .int .u8 0] 91)).there wr.heap.size 0 (K.map uv).toArray.size) := Lib.hid (HNB.out.there (by rw [uvs_size, HKL.out]; exact Nat.le_refl 16))
      have KNB : Hid (Blk ((wr.alloc (.cells #[.int .u8 0, .int .u8 0, .int .u8 0, .int .u8 0, .int .u8 0, .int .u8 0, .int .u8 0, .int .u8 0, .int .u8 0, .int .u8 0, .int .u8 0, .int .u8 0, .int .u8 0, .int .u8 0, .int .u8 0, .int .u8 0] 91)).setCells wr.heap.size 0 (K.map uv)) wr.heap.size 91 (K.map uv).toArray) := Lib.hid (HNB.out.whole (K.map uv) (by rw [List.length_map, HKL.out]; rfl))
      have hzb := hb.size
      have hbl := B.out.lt
      have hzl := Z1.out.lt
      have B2 := Lib.hid ((B.out.alloc (.cells #[.int .u8 0, .int .u8 0, .int .u8 0, .int .u8 0, .int .u8 0, .int .u8 0, .int .u8 0, .int .u8 0, .int .u8 0, .int .u8 0, .int .u8 0, .int .u8 0, .int .u8 0, .int .u8 0, .int .u8 0, .int .u8 0] 91)).far_ (g := wr.heap.size) (by omega) 0 (K.map uv))
      have Z2 := Lib.hid ((Z1.out.alloc (.cells #[.int .u8 0, .int .u8 0, .int .u8 0, .int .u8 0, .int .u8 0, .int .u8 0, .int .u8 0, .int .u8 0, .int .u8 0, .int .u8 0, .int .u8 0, .int .u8 0, .int .u8 0, .int .u8 0, .int .u8 0, .int .u8 0] 91)).far_ (g := wr.heap.size) (by omega) 0 (K.map uv))
      have hb2 := bw (ba hb (.cells #[.int .u8 0, .int .u8 0, .int .u8 0, .int .u8 0, .int .u8 0, .int .u8 0, .int .u8 0, .int .u8 0, .int .u8 0, .int .u8 0, .int .u8 0, .int .u8 0, .int .u8 0, .int .u8 0, .int .u8 0, .int .u8 0] 91)) (g := wr.heap.size) (by omega) 0 (K.map uv)
      go_upto_region 4 with (first | (refine wpList_load_mid rfl _ _ rfl gk (i * 16) rfl (K.map uv) _ HRG.out Tryz.underlying91 rfl (by rw [List.length_map, HKL.out]; kernel_rfl) ?_) | (refine wpList_store_mid rfl _ _ _ rfl wr.heap.size 0 (K.map uv).toArray rfl rfl HNT.out (glen HKL.out) (all_oneCell_toArray (uvs_one K)) ?_))
      generalize (wr.alloc (.cells #[.int .u8 0, .int .u8 0, .int .u8 0, .int .u8 0, .int .u8 0, .int .u8 0, .int .u8 0, .int .u8 0, .int .u8 0, .int .u8 0, .int .u8 0, .int .u8 0, .int .u8 0, .int .u8 0, .int .u8 0, .int .u8 0] 91)).setCells wr.heap.size 0 (K.map uv) = w2 at KNB B2 Z2 hb2
      obtain ⟨p, hp⟩ : ∃ p, wr.heap.size = p := ⟨_, rfl⟩
      rw [hp] at KNB ⊢
      clear HNB HNT hp hzb hbl hzl B Z1 hb HRG
      have hbs := build_size K
      have hkl := HKL.out
      have HBR := Lib.hid (build_rnd gb HKL.out)
      go_upto_region 5 with (refine wpList_load_row rfl _ _ rfl _ rfl _ _ _ _ KNB.out Tryz.underlying91 rfl (glen HKL.out) ?_)
      rw [HBR.out]
      have hbl := B2.out.lt
      have hzl := Z2.out.lt
      have R3 := Lib.hid (Blk.new w2 124 (rnd K gb))
      have B3 := Lib.hid (B2.out.alloc (.cells (rnd K gb) 124))
      have Z3 := Lib.hid (Z2.out.alloc (.cells (rnd K gb) 124))
      have hb3 := ba hb2 (.cells (rnd K gb) 124)
      obtain ⟨r, hr⟩ : ∃ r, w2.heap.size = r := ⟨_, rfl⟩
      rw [hr] at R3 hbl hzl ⊢
      generalize w2.alloc (.cells (rnd K gb) 124) = w3 at R3 B3 Z3 hb3
      have hwl : Hid (IntKind.i64.wrap (last : Int) = (last : Int)) := Lib.hid (by rw [IntKind.wrap_i64]; omega)
      clear hr KNB B2 Z2 hb2 hbs HBR w2 hkl
      go_wp2_with fail
      refine (HST.out _).mono ?_
      rintro e w4 ⟨gf, rfl, hgf, hFB, hb4⟩
      have R4 := Lib.hid (R3.out.below hb4)
      have B4 := Lib.hid (B3.out.below hb4)
      have Z4 := Lib.hid (Z3.out.below hb4)
      have F4 := Lib.hid hFB
      have hB4 := bt hb3 hb4
      have hgw : w.heap.size < gf := by have := B3.out.lt; omega
      have HT0 : Hid (applyF K (fs.take 0) s = s) := Lib.hid rfl
      have HFC := Lib.hid (fcell_at fs)
      have HAT := Lib.hid (applyF_take K fs s)
      have HAL := Lib.hid (fun k => applyF_len K (fs.take k) s HSL.out)
      have HALL : Hid (applyF K (fs.take fs.length) s = applyF K fs s) := Lib.hid (by rw [List.take_of_length_le (Nat.le_refl _)])
      rw [← HT0.out] at B4
      obtain ⟨n, hn⟩ : ∃ n, fs.length = n := ⟨_, rfl⟩
      rw [hn] at HFC HAT HFM HALL hfl
      rw [hn]
      clear hn hFB hb4 hb3 R3 B3 Z3 hgf HST
      go_wp2_with fail
      go_loopw [29] (fun kv wx => ∃ k : Nat, k ≤ n ∧ kv = .int .i64 k ∧ Hid (Blk wx (w.heap.size + 1) 91 (Z.map uv).toArray) ∧ Hid (Blk wx w.heap.size 91 ((applyF K (fs.take k) s).map uv).toArray) ∧ Hid (Blk wx r 124 (rnd K gb)) ∧ Hid (Blk wx gf 128 (fs.map fcell).toArray) ∧ Below w.heap.size w wx) (fun kv _ => n - (intOf kv).toNat)
      case atStart => exact ⟨0, Nat.zero_le _, rfl, Z4, B4, R4, F4, hB4⟩
      case round =>
        clear Z4 B4 R4 F4 hB4
        obtain ⟨k, hk, rfl, Z5, B5, R5, F5, hb5⟩ := hrel
        by_cases hkn : k < n
        · have hki : (k : Int) < (n : Int) := by omega
          have k0 : (0 : Int) ≤ (k : Int) := by omega
          have hcf : wr.cell? ⟨gf, k, none⟩ = some (.func (.func (fs.getD k 0)) #[] #[]) := (F5.out.cell k).trans (HFC.out k hkn)
          have HFX := Lib.hid (fun (S : List UInt8) (hS : S.length = 16) (W : World) (hW : Blk W r 124 (rnd K gb)) (hWx : Blk W gb 5 bxs) => fcall_any (fs.getD k 0) (HFM.out k hkn) S K r gb W hS HKL.out hW hWx)
          have HAK := HAT.out k hkn
          have HSK := Lib.hid (HAL.out k)
          have HSN := Lib.hid (HAL.out (k + 1))
          have hfm := HFM.out k hkn
          generalize fs.getD k 0 = f at hcf HFX HAK hfm
          generalize applyF K (fs.take k) s = S at B5 HAK HSK
          have HFS := Lib.hid (HFX.out S HSK.out)
          rw [← HAK] at HFS
          obtain ⟨S', hS'⟩ : ∃ S', applyF K (fs.take (k + 1)) s = S' := ⟨_, rfl⟩
          rw [hS'] at HFS HSN
          have HS' := Lib.hid hS'
          clear hS' HAK HFX
          rcases hfm with rfl | rfl | rfl | rfl
          all_goals
            go_upto_region 8 with fail
            go_wp2_with (refine wpList_load_row rfl _ _ rfl _ rfl _ _ _ _ B5.out Tryz.underlying91 rfl (glen HSK.out) ?_)
            refine (HFS.out _ R5.out (HX.out.below hb5)).mono ?_
            rintro e w6 ⟨rfl, hb6⟩
            have B6 := Lib.hid (B5.out.below hb6)
            have hbl6 := B6.out.lt
            have HT6 := Lib.hid (gthere (M := S') B6.out HSK.out HSN.out)
            have B7 : Hid (Blk (w6.setCells w.heap.size 0 (S'.map uv)) w.heap.size 91 (S'.map uv).toArray) := Lib.hid (B6.out.whole (S'.map uv) (by rw [List.length_map, uvs_size, HSK.out, HSN.out]))
            have Z7 := Lib.hid ((Z5.out.below hb6).far_ (g := w.heap.size) (by omega) 0 (S'.map uv))
            have R7 := Lib.hid ((R5.out.below hb6).far_ (g := w.heap.size) (by omega) 0 (S'.map uv))
            have F7 := Lib.hid ((F5.out.below hb6).far_ (g := w.heap.size) (by omega) 0 (S'.map uv))
            have hb7 := bw (bt hb5 hb6) (g := w.heap.size) (Nat.le_refl _) 0 (S'.map uv)
            clear B5 Z5 R5 F5 hb5 hb6 hcf
            simp only []
            go_upto_region 9 with (refine wpList_store_mid rfl _ _ _ rfl w.heap.size 0 (S'.map uv).toArray rfl rfl HT6.out (glen HSN.out) (all_oneCell_toArray (uvs_one S')) ?_)
            generalize w6.setCells w.heap.size 0 (S'.map uv) = w7 at B7 Z7 R7 F7 hb7
            rw [← HS'.out] at B7
            clear HT6 B6
            go_wp2_with fail
            exact ⟨⟨k + 1, by omega, by go_num, Z7, B7, R7, F7, hb7⟩, by simp [intOf]; omega⟩
        · obtain rfl : k = n := by omega
          rw [HALL.out, ← HES1.out] at B5
          go_wp2_with fail
          exact ⟨⟨i + 1, by omega, by go_num, Z5, B5, hb5⟩, by simp [intOf]; omega⟩
    · obtain rfl : i = rounds := by omega
      rw [HNE.out] at B
      have HONE := Lib.hid (uvs_one N)
      go_wp2_with (first | (refine wpList_load_row rfl _ _ rfl _ rfl _ _ _ _ B.out Tryz.underlying91 rfl (glen HNN.out) ?_) | (refine wpList_store_mid rfl _ _ _ rfl _ _ (N.map uv).toArray rfl rfl (gthere Z1.out HZ.out HNN.out) (glen HNN.out) (all_oneCell_toArray HONE.out) ?_))
      have hW := Z1.out.whole (N.map uv) (by rw [List.length_map, uvs_size, HNN.out, HZ.out])
      refine bodyPost_ret (v := .agg (N.map uv).toArray) (results_cell_row rfl _ _ _ _ _ _ _ rfl hW Tryz.underlying91 rfl (glen HNN.out)) rfl ?_
      exact ⟨rfl, bw hb (by omega) _ _⟩
end Go.Proofs.YtcecjoodlmpgnaaGreat
/- The contract of Encrypt. -/
namespace Go.Proofs.YtcecjoodlmpgnaaGreat
open Go.RowKit

theorem encL_len (key l : List UInt8) (h : l.length = 16) : (encL key l).length = 16 := encN_len _ _ _ h _

set_option maxRecDepth 100000 in
set_option maxHeartbeats 1000000 in
theorem enc_yes (key l : List UInt8) (w : World) (hk : key.length = 16 ∨ key.length = 32) (hl : l.length = 16) :
    Calls Tryz.prog 43 #[.string ⟨key.toArray⟩, .string ⟨l.toArray⟩] w fun e w' => e = .returned (.tuple #[.string ⟨(encL key l).toArray⟩, .int .i64 0]) ∧ Below w.heap.size w w' := by
  have H1 := Lib.hid (isKey_yes key w hk)
  have H2 := Lib.hid (isBlock_yes l w hl)
  have H3 := Lib.hid (boxes_any w)
  have H4 := Lib.hid (fun W => gridOf_any l W hl)
  have H5 := Lib.hid (fun gb W hx => roundKeys_any key (key.length / 4 + 7) gb W hx hk rfl)
  have H6 := Lib.hid (fun gk gb W h1 h2 => encrypted_any l (keysF key) gk gb (key.length / 4 + 7) (key.length / 4 + 6) W hl (by rw [keysF_len key hk, Nat.mul_comm]) (by omega) rfl h1 h2)
  have H7 := Lib.hid (fun W => told_any (encL key l) W (encL_len key l hl))
  have HE : Hid (encN (key.length / 4 + 6) (keysF key) l (key.length / 4 + 7) = encL key l) := Lib.hid rfl
  rw [HE.out] at H6
  generalize encL key l = E at H6 H7 ⊢
  clear HE hk hl
  go_enter Tryz.func43, Tryz.ntmps43
  go_wp2_with fail
  refine H1.out.mono ?_
  rintro e w0 ⟨rfl, rfl⟩
  go_wp2_with fail
  refine H2.out.mono ?_
  rintro e w0 ⟨rfl, rfl⟩
  go_wp2_with fail
  refine H3.out.mono ?_
  rintro e w1 ⟨gb, rfl, hg, hB, hb1⟩
  have HB := Lib.hid hB
  clear hB
  go_wp2_with fail
  refine (H4.out _).mono ?_
  rintro e w2 ⟨rfl, hb2⟩
  have HB2 := Lib.hid (HB.out.below hb2)
  have hB2 := bt hb1 hb2
  clear hb1 hb2 HB
  go_wp2_with fail
  refine (H5.out _ _ HB2.out).mono ?_
  rintro e w3 ⟨gk, rfl, hgk, hK, hb3⟩
  have HK := Lib.hid hK
  have HB3 := Lib.hid (HB2.out.below hb3)
  have hB3 := bt hB2 hb3
  clear hb3 HB2 hB2 hK
  go_wp2_with fail
  refine (H6.out _ _ _ HK.out HB3.out).mono ?_
  rintro e w4 ⟨rfl, hb4⟩
  go_wp2_with fail
  refine (H7.out _).mono ?_
  rintro e w5 ⟨rfl, hb5⟩
  go_wp2_with fail
  go_ret2
  exact ⟨rfl, bt (bt hB3 hb4) hb5⟩
set_option maxRecDepth 100000 in
set_option maxHeartbeats 1000000 in
theorem enc_no (key l : List UInt8) (w : World) (h : ¬ ((key.length = 16 ∨ key.length = 32) ∧ l.length = 16)) :
    Calls Tryz.prog 43 #[.string ⟨key.toArray⟩, .string ⟨l.toArray⟩] w fun e w' => e = .returned (.tuple #[.string ⟨#[]⟩, .int .i64 4]) ∧ Below w.heap.size w w' := by
  by_cases hk : key.length = 16 ∨ key.length = 32
  · have H1 := Lib.hid (isKey_yes key w hk)
    have H2 := Lib.hid (isBlock_no l w (fun hl => h ⟨hk, hl⟩))
    clear h hk
    go_enter Tryz.func43, Tryz.ntmps43
    go_wp2_with fail
    refine H1.out.mono ?_
    rintro e w0 ⟨rfl, rfl⟩
    go_wp2_with fail
    refine H2.out.mono ?_
    rintro e w0 ⟨rfl, rfl⟩
    go_wp2_with fail
    go_ret2
    exact ⟨rfl, Below.refl _ _⟩
  · have H1 := Lib.hid (isKey_no key w hk)
    clear h hk
    go_enter Tryz.func43, Tryz.ntmps43
    go_wp2_with fail
    refine H1.out.mono ?_
    rintro e w0 ⟨rfl, rfl⟩
    go_wp2_with fail
    go_ret2
    exact ⟨rfl, Below.refl _ _⟩
end Go.Proofs.YtcecjoodlmpgnaaGreat
/- The contracts of the reference's text, Boxed and factor. -/
namespace Go.Proofs.YtcecjoodlmpgnaaGreat
open Go.RowKit

theorem own_nil {W : World} {t : TypeId} {g base size : Nat} (h : Blk W g t #[]) (hb : base ≤ g) : W.ownsRow base t size (.slice (some ⟨g, 0, none⟩) 0 0) 0 [] :=
  ⟨by simp, .inr ⟨g, 0, #[], rfl, hb, h, Nat.le_refl _, Nat.zero_le _, by simp, by simp⟩⟩
theorem own_mono' {W : World} {base b : Nat} {e : TypeId} {size : Nat} {v : Value} {n : Nat} {xs : List Value} (h : W.ownsRow base e size v n xs) (hb : b ≤ base) : W.ownsRow b e size v n xs := by
  obtain ⟨h1, h2⟩ := h
  refine ⟨h1, ?_⟩
  rcases h2 with h2 | ⟨g, cap, cur, hv, hg, r⟩
  · exact Or.inl h2
  · exact Or.inr ⟨g, cap, cur, hv, Nat.le_trans hb hg, r⟩

set_option maxRecDepth 100000 in
set_option maxHeartbeats 1000000 in
theorem text_any (base g n c : Nat) (L : List UInt8) (w : World) (h : w.ownsRow base 5 1 (.slice (some ⟨g, 0, none⟩) n c) n (L.map uv)) (hl : L.length = n) :
    Calls Tryz.prog 101 #[.slice (some ⟨g, 0, none⟩) n c] w fun e w' => e = .returned (.string ⟨L.toArray⟩) ∧ w = w' := by
  have hcv := own_text (l := L) h hl
  clear h hl
  go_enter Tryz.func101, Tryz.ntmps101
  go_wp2
  go_ret
  exact ⟨rfl, rfl⟩
theorem rbox8_any (b : UInt8) (w : World) : Calls Tryz.prog 102 #[.int .u8 (b.toNat : Int)] w fun e w' => e = .returned (uv (box8 b)) ∧ w = w' := by
  have hb := b.toNat_lt
  refine (rbox_any b.toNat w (by omega)).mono ?_
  rintro e w' ⟨rfl, rfl⟩
  rw [← box8_nat]
  exact ⟨rfl, rfl⟩
theorem rmul8_any (a b : UInt8) (w : World) : Calls Tryz.prog 103 #[.int .u8 (a.toNat : Int), .int .u8 (b.toNat : Int)] w fun e w' => e = .returned (uv (mul8 a b)) ∧ w = w' := by
  have ha := a.toNat_lt
  have hb := b.toNat_lt
  refine (rmul_any a.toNat b.toNat w (by omega) (by omega)).mono ?_
  rintro e w' ⟨rfl, rfl⟩
  rw [← mul8_nat]
  exact ⟨rfl, rfl⟩
theorem rpow2_any (n : Nat) (w : World) (hn : (n : Int) ≤ 1000) : Calls Tryz.prog 125 #[.int .u8 2, .int .i64 (n : Int)] w fun e w' => e = .returned (uv (pw8 n)) ∧ w = w' := by
  refine (rpw_any 2 n w (by omega) (by omega)).mono ?_
  rintro e w' ⟨rfl, rfl⟩
  have : uv (pw8 n) = .int .u8 ((pw 2 n : Nat) : Int) := by rw [← pw8_nat]
  rw [this]
  exact ⟨rfl, rfl⟩
theorem index_of (l : List UInt8) (i : Nat) (k : Int) (hk : (i : Int) = k) (h : i < l.length) (W : World) : (Instr.index 9 (.string ⟨l.toArray⟩) (.int .i64 k)).run Tryz.prog W = .ok (uv (ub l i)) W := index_is ⟨l.toArray⟩ i k (ub l i) hk (at_get l i h) W
theorem take_map (f : UInt8 → UInt8) (l : List UInt8) (k : Nat) (h : k < l.length) : (l.take (k + 1)).map f = (l.take k).map f ++ [f (ub l k)] := by
  rw [List.take_succ_eq_append_getElem h, List.map_append, ub_at h]
  rfl

set_option maxRecDepth 100000 in
set_option maxHeartbeats 2000000 in
theorem rBoxed_any (l : List UInt8) (w : World) (hl : l.length ≤ 64) :
    Calls Tryz.prog 77 #[.string ⟨l.toArray⟩] w fun e w' => e = .returned (.string ⟨(l.map box8).toArray⟩) ∧ Below w.heap.size w w' := by
  obtain ⟨i0, hi, hz0, hz1, hz2⟩ := info_parts info5
  have HIX := Lib.hid (index_of l)
  have HTM := Lib.hid (take_map box8 l)
  have hsz := size_of l
  have HML : Hid ((l.map box8).length = l.length) := Lib.hid (by simp)
  have HTL := Lib.hid (List.take_of_length_le (Nat.le_refl l.length))
  have HTN : Hid (∀ k, k ≤ l.length → ((l.take k).map box8).length = k) := Lib.hid (fun k hk => by simp; omega)
  obtain ⟨n, hn⟩ : ∃ n, l.length = n := ⟨_, rfl⟩
  rw [hn] at hsz hl HIX HTM HML HTL HTN
  have HO0 : Hid ((w.alloc (.cells #[] 5)).ownsRow w.heap.size 5 1 (.slice (some ⟨w.heap.size, 0, none⟩) 0 0) 0 (((l.take 0).map box8).map uv)) := Lib.hid (own_nil (Blk.new w _ _) (Nat.le_refl _))
  have hb0 := ba (Below.refl w.heap.size w) (.cells #[] 5)
  clear hn
  go_enter Tryz.func77, Tryz.ntmps77
  go_wp2_with fail
  go_loopw [3, 4] (fun ov iv wr => ∃ k g c : Nat, k ≤ n ∧ iv = .int .i64 k ∧ ov = .slice (some ⟨g, 0, none⟩) k c ∧ Hid (wr.ownsRow w.heap.size 5 1 (.slice (some ⟨g, 0, none⟩) k c) k (((l.take k).map box8).map uv)) ∧ Below w.heap.size w wr) (fun _ iv _ => n - (intOf iv).toNat)
  case atStart => exact ⟨0, _, _, Nat.zero_le _, rfl, rfl, HO0, hb0⟩
  case round =>
    clear HO0 hb0
    obtain ⟨k, g, c, hk, rfl, rfl, HO, hb⟩ := hrel
    by_cases hlt : k < n
    · have hix := HIX.out k k rfl hlt
      have HT := Lib.hid (HTM.out k hlt)
      generalize ub l k = x at hix HT
      have HB := Lib.hid (rbox8_any x wr)
      generalize box8 x = y at HB HT
      have hz := hb.size
      have hnews := news_new wr [uv y] 5
      go_wp2_with fail
      refine HB.out.mono ?_
      rintro e w' ⟨rfl, rfl⟩
      go_wp2_with (at_builtin; refine wpList_append_own _ rfl _ _ 64 rfl w.heap.size 5 i0 (.int .u8 0) 1 1 Tryz.underlying64 hi hz0 hz1 hz2 rfl (by decide) _ _ _ rfl (own_alloc HO.out _) ⟨wr.heap.size, 0, none⟩ 1 1 [uv y] rfl rfl hnews (by simp [Value.oneCell']) (by unfold maxLen; omega) (by omega) (by simp; omega) ?_; intro v' w6 hown' hgrow _; obtain ⟨g1, c1, rfl⟩ := ownsRow_succ hown'; have HO6 := Lib.hid hown'; have hb6 : Below w.heap.size w w6 := (hb.alloc hb.size _).grown hgrow (by simp; omega) (fun r e => by cases e; exact (HO.out.lt _ rfl).1); clear hown' hnews hgrow)
      exact ⟨⟨k + 1, g1, c1, by omega, by go_num, rfl, Lib.hid (by rw [HT.out, List.map_append]; exact HO6.out), hb6⟩, by simp [intOf]; omega⟩
    · obtain rfl : k = n := by omega
      have HTX := Lib.hid (text_any w.heap.size g k c _ wr HO.out (HTN.out k hk))
      rw [HTL.out] at HTX
      go_wp2_with fail
      refine HTX.out.mono ?_
      rintro e w' ⟨rfl, rfl⟩
      go_wp2_with fail
      go_ret
      exact ⟨rfl, hb⟩

def facB (r k : Nat) : UInt8 := if r = k then 2 else if (r + 1) % 4 = k then 3 else 1
set_option maxRecDepth 100000 in
set_option maxHeartbeats 1000000 in
theorem factor_any (r k : Nat) (w : World) (hr : (r : Int) < 4) (hk : (k : Int) < 4) :
    Calls Tryz.prog 104 #[.int .i64 (r : Int), .int .i64 (k : Int)] w fun e w' => e = .returned (uv (facB r k)) ∧ w = w' := by
  have hr' : r = 0 ∨ r = 1 ∨ r = 2 ∨ r = 3 := by omega
  have hk' : k = 0 ∨ k = 1 ∨ k = 2 ∨ k = 3 := by omega
  clear hr hk
  rcases hr' with rfl | rfl | rfl | rfl <;> rcases hk' with rfl | rfl | rfl | rfl
  all_goals
    go_enter Tryz.func104, Tryz.ntmps104
    go_wp2
    go_ret
    exact ⟨rfl, rfl⟩
end Go.Proofs.YtcecjoodlmpgnaaGreat
/- The contracts of the reference's Turned and Xor. -/
namespace Go.Proofs.YtcecjoodlmpgnaaGreat
open Go.RowKit

theorem take_ub (l : List UInt8) (k : Nat) (h : k < l.length) : l.take (k + 1) = l.take k ++ [ub l k] := by
  rw [List.take_succ_eq_append_getElem h, ub_at h]
theorem turnG_at' (G : List UInt8) (c r : Nat) (hc : c < 4) (hr : r < 4) : ub (turnG G) (c * 4 + r) = ub G (4 * ((c + r) % 4) + r) := by
  unfold turnG
  rw [ub_tab _ (by omega), show (c * 4 + r) / 4 = c by omega, show (c * 4 + r) % 4 = r by omega]

set_option maxRecDepth 100000 in
set_option maxHeartbeats 2000000 in
theorem rTurned_any (l : List UInt8) (w : World) (hl : l.length = 16) :
    Calls Tryz.prog 76 #[.string ⟨l.toArray⟩] w fun e w' => e = .returned (.string ⟨(turnG l).toArray⟩) ∧ Below w.heap.size w w' := by
  obtain ⟨i0, hi, hz0, hz1, hz2⟩ := info_parts info5
  have HIX := Lib.hid (index_of l)
  have HU := Lib.hid (turnG_at' l)
  have HN : Hid ((turnG l).length = 16) := Lib.hid (tab_len _ _)
  have hsz := size_of l
  rw [hl] at hsz HIX
  obtain ⟨N, hN⟩ : ∃ N, turnG l = N := ⟨_, rfl⟩
  rw [hN] at HU HN ⊢
  have HTK := Lib.hid (take_ub N)
  have HO0 : Hid ((w.alloc (.cells #[] 5)).ownsRow w.heap.size 5 1 (.slice (some ⟨w.heap.size, 0, none⟩) 0 0) 0 ((N.take 0).map uv)) := Lib.hid (own_nil (Blk.new w _ _) (Nat.le_refl _))
  have hb0 := ba (Below.refl w.heap.size w) (.cells #[] 5)
  clear hl hN
  go_enter Tryz.func76, Tryz.ntmps76
  go_wp2_with fail
  go_loopw [3, 4] (fun ov iv wr => ∃ c g d : Nat, c ≤ 4 ∧ iv = .int .i64 c ∧ ov = .slice (some ⟨g, 0, none⟩) (c * 4) d ∧ Hid (wr.ownsRow w.heap.size 5 1 (.slice (some ⟨g, 0, none⟩) (c * 4) d) (c * 4) ((N.take (c * 4)).map uv)) ∧ Below w.heap.size w wr) (fun _ iv _ => 4 - (intOf iv).toNat)
  case atStart => exact ⟨0, _, _, Nat.zero_le _, rfl, rfl, HO0, hb0⟩
  case round =>
    clear HO0 hb0
    obtain ⟨c, g, d, hc, rfl, rfl, HO, hb⟩ := hrel
    by_cases hlt : c < 4
    · have hci : (c : Int) < 4 := by omega
      go_wp2_with fail
      go_loopw [3, 5] (fun ov iv wx => ∃ r g d : Nat, r ≤ 4 ∧ iv = .int .i64 r ∧ ov = .slice (some ⟨g, 0, none⟩) (c * 4 + r) d ∧ Hid (wx.ownsRow w.heap.size 5 1 (.slice (some ⟨g, 0, none⟩) (c * 4 + r) d) (c * 4 + r) ((N.take (c * 4 + r)).map uv)) ∧ Below w.heap.size w wx) (fun _ iv _ => 4 - (intOf iv).toNat)
      case atStart => exact ⟨0, _, _, Nat.zero_le _, rfl, rfl, HO, hb⟩
      case round =>
        clear HO hb
        obtain ⟨r, g, d, hr, rfl, rfl, HO, hb⟩ := hrel
        by_cases hrl : r < 4
        · have hri : (r : Int) < 4 := by omega
          have hu := HU.out c r hlt hrl
          have HT := Lib.hid (HTK.out (c * 4 + r) (by rw [HN.out]; omega))
          rw [hu] at HT
          obtain ⟨q, hq⟩ : ∃ q, (c + r) % 4 = q := ⟨_, rfl⟩
          obtain ⟨s, hs⟩ : ∃ s, 4 * q = s := ⟨_, rfl⟩
          obtain ⟨m, hm⟩ : ∃ m, s + r = m := ⟨_, rfl⟩
          rw [hq, hs, hm] at HT
          have e1 : ((c : Int) + (r : Int)).tmod 4 = (q : Int) := by rw [Int.tmod_eq_emod_of_nonneg (by omega)]; omega
          have e2 : 4 * (q : Int) = (s : Int) := by omega
          have e3 : (s : Int) + (r : Int) = (m : Int) := by omega
          have hq4 : (q : Int) < 4 := by omega
          have hs4 : (s : Int) ≤ 12 := by omega
          have hix := HIX.out m m rfl (by omega)
          generalize ub l m = x at hix HT
          have hz := hb.size
          have hnews := news_new wr [uv x] 5
          obtain ⟨p, hp⟩ : ∃ p, c * 4 + r = p := ⟨_, rfl⟩
          have hp1 : c * 4 + (r + 1) = p + 1 := by omega
          rw [hp] at HO HT ⊢
          have HP1 := Lib.hid hp1
          have hpl : p ≤ 15 := by omega
          clear hu hq hs hm hp hp1
          go_upto_region 7 with (at_builtin; refine wpList_append_own _ rfl _ _ 64 rfl w.heap.size 5 i0 (.int .u8 0) 1 1 Tryz.underlying64 hi hz0 hz1 hz2 rfl (by decide) _ _ _ rfl (own_alloc HO.out _) ⟨wr.heap.size, 0, none⟩ 1 1 [uv x] rfl rfl hnews (by simp [Value.oneCell']) (by unfold maxLen; omega) (by omega) (by simp; omega) ?_; intro v' w6 hown' hgrow _; obtain ⟨g1, c1, rfl⟩ := ownsRow_succ hown'; have HO6 := Lib.hid hown'; have hb6 : Below w.heap.size w w6 := (hb.alloc hb.size _).grown hgrow (by simp; omega) (fun r e => by cases e; exact (HO.out.lt _ rfl).1); clear hown' hnews hgrow)
          go_wp2_with fail
          exact ⟨⟨r + 1, g1, c1, by omega, by go_num, by rw [HP1.out], Lib.hid (by rw [HP1.out, HT.out, List.map_append]; exact HO6.out), hb6⟩, by simp [intOf]; omega⟩
        · obtain rfl : r = 4 := by omega
          have HSE : Hid (c * 4 + 4 = (c + 1) * 4) := Lib.hid (by omega)
          rw [HSE.out] at HO ⊢
          go_wp2_with fail
          exact ⟨⟨c + 1, g, d, by omega, by go_num, rfl, HO, hb⟩, by simp [intOf]; omega⟩
    · obtain rfl : c = 4 := by omega
      rw [List.take_of_length_le (by rw [HN.out]; exact Nat.le_refl 16)] at HO
      have HTX := Lib.hid (text_any w.heap.size g 16 d N wr HO.out HN.out)
      go_wp2_with fail
      refine HTX.out.mono ?_
      rintro e w' ⟨rfl, rfl⟩
      go_wp2_with fail
      go_ret
      exact ⟨rfl, hb⟩
end Go.Proofs.YtcecjoodlmpgnaaGreat
/- The contract of the reference's Xor. -/
namespace Go.Proofs.YtcecjoodlmpgnaaGreat
open Go.RowKit

/-- Two texts, byte by byte. -/
def xorA (n : Nat) (A B : List UInt8) : List UInt8 := tab n fun i => ub A i ^^^ ub B i
set_option maxRecDepth 100000 in
set_option maxHeartbeats 2000000 in
theorem rXor_any (a b : List UInt8) (n : Nat) (w : World) (ha : a.length = n) (hb : b.length = n) (hn : n ≤ 64) :
    Calls Tryz.prog 75 #[.string ⟨a.toArray⟩, .string ⟨b.toArray⟩] w fun e w' => e = .returned (.string ⟨(xorA n a b).toArray⟩) ∧ Below w.heap.size w w' := by
  obtain ⟨i0, hi, hz0, hz1, hz2⟩ := info_parts info5
  have HIA := Lib.hid (index_of a)
  have HIB := Lib.hid (index_of b)
  have HU : Hid (∀ k, k < n → ub (xorA n a b) k = ub a k ^^^ ub b k) := Lib.hid (fun k hk => ub_tab _ hk)
  have HN : Hid ((xorA n a b).length = n) := Lib.hid (tab_len _ _)
  have hsa := size_of a
  have hsb := size_of b
  rw [ha] at hsa HIA
  rw [hb] at hsb HIB
  obtain ⟨N, hN⟩ : ∃ N, xorA n a b = N := ⟨_, rfl⟩
  rw [hN] at HU HN ⊢
  have HTK := Lib.hid (take_ub N)
  have HO0 : Hid ((w.alloc (.cells #[] 5)).ownsRow w.heap.size 5 1 (.slice (some ⟨w.heap.size, 0, none⟩) 0 0) 0 ((N.take 0).map uv)) := Lib.hid (own_nil (Blk.new w _ _) (Nat.le_refl _))
  have hb0 := ba (Below.refl w.heap.size w) (.cells #[] 5)
  clear ha hb hN
  go_enter Tryz.func75, Tryz.ntmps75
  go_wp2_with fail
  go_loopw [5, 6] (fun ov iv wr => ∃ k g d : Nat, k ≤ n ∧ iv = .int .i64 k ∧ ov = .slice (some ⟨g, 0, none⟩) k d ∧ Hid (wr.ownsRow w.heap.size 5 1 (.slice (some ⟨g, 0, none⟩) k d) k ((N.take k).map uv)) ∧ Below w.heap.size w wr) (fun _ iv _ => n - (intOf iv).toNat)
  case atStart => exact ⟨0, _, _, Nat.zero_le _, rfl, rfl, HO0, hb0⟩
  case round =>
    clear HO0 hb0
    obtain ⟨k, g, d, hk, rfl, rfl, HO, hb⟩ := hrel
    by_cases hlt : k < n
    · have hki : (k : Int) < (n : Int) := by omega
      have HT := Lib.hid (HTK.out k (by rw [HN.out]; exact hlt))
      rw [HU.out k hlt] at HT
      have hia := HIA.out k k rfl hlt
      have hib := HIB.out k k rfl hlt
      have hxr := xor_byte (ub a k) (ub b k)
      generalize ub a k = x at hia hxr HT
      generalize ub b k = y at hib hxr HT
      obtain ⟨z, hz⟩ : ∃ z, x ^^^ y = z := ⟨_, rfl⟩
      rw [hz] at hxr HT
      have hzz := hb.size
      have hk64 : k ≤ 63 := by omega
      clear hz
      go_wp2_with fail
      have HOD : Hid (wr.drew.ownsRow w.heap.size 5 1 (.slice (some ⟨g, 0, none⟩) k d) k ((N.take k).map uv)) := HO
      have hbD := hb.drew
      refine wp_region_held_drew (S := fun _ => True) (by kernel_rfl) trivial (fun hHeld => ?_)
      refine wpAnyH_take (i := 0) (oi := ⟨some 14, _, _, _, _, _⟩) (v := ?_) rfl (by kernel_rfl) (by kernel_rfl) (by kernel_rfl) (fun _ _ _ h => h) (Or.inl ⟨by rfl, ?_⟩) (by assumption) ?_
      rotate_left
      · (intro w9 hSw; (try dsimp only at hSw); go_simp; try with_reducible rfl)
      try simp only [Act.put, List.setIfInBounds_toArray, List.set_cons_zero, List.set_cons_succ]
      refine wpAnyH_take (i := 1) (oi := ⟨some 15, _, _, _, _, _⟩) (v := ?_) rfl (by kernel_rfl) (by kernel_rfl) (by kernel_rfl) (fun _ _ _ h => h) (Or.inl ⟨by rfl, ?_⟩) (by assumption) ?_
      rotate_left
      · (intro w9 hSw; (try dsimp only at hSw); go_simp; try with_reducible rfl)
      try simp only [Act.put, List.setIfInBounds_toArray, List.set_cons_zero, List.set_cons_succ]
      refine wpAnyH_take (i := 2) (oi := ⟨some 16, _, _, _, _, _⟩) (v := ?_) rfl (by kernel_rfl) (by kernel_rfl) (by kernel_rfl) (fun _ _ _ h => h) (Or.inl ⟨by rfl, ?_⟩) (by assumption) ?_
      rotate_left
      · (intro w9 hSw; (try dsimp only at hSw); go_simp; try with_reducible rfl)
      try simp only [Act.put, List.setIfInBounds_toArray, List.set_cons_zero, List.set_cons_succ]
      refine wpAnyH_take (i := 3) (oi := ⟨some 17, _, _, _, _, _⟩) (v := uv x) rfl (by kernel_rfl) (by kernel_rfl) (by kernel_rfl) (fun _ _ _ h => h) (Or.inl ⟨by rfl, ?_⟩) (by assumption) ?_
      · (intro w9 hSw; (try dsimp only at hSw); go_simp)
      try simp only [Act.put, List.setIfInBounds_toArray, List.set_cons_zero, List.set_cons_succ]
      refine wpAnyH_take (i := 4) (oi := ⟨some 18, _, _, _, _, _⟩) (v := ?_) rfl (by kernel_rfl) (by kernel_rfl) (by kernel_rfl) (fun _ _ _ h => h) (Or.inl ⟨by rfl, ?_⟩) (by assumption) ?_
      rotate_left
      · (intro w9 hSw; (try dsimp only at hSw); go_simp; try with_reducible rfl)
      try simp only [Act.put, List.setIfInBounds_toArray, List.set_cons_zero, List.set_cons_succ]
      refine wpAnyH_take (i := 5) (oi := ⟨some 19, _, _, _, _, _⟩) (v := ?_) rfl (by kernel_rfl) (by kernel_rfl) (by kernel_rfl) (fun _ _ _ h => h) (Or.inl ⟨by rfl, ?_⟩) (by assumption) ?_
      rotate_left
      · (intro w9 hSw; (try dsimp only at hSw); go_simp; try with_reducible rfl)
      try simp only [Act.put, List.setIfInBounds_toArray, List.set_cons_zero, List.set_cons_succ]
      refine wpAnyH_take (i := 6) (oi := ⟨some 20, _, _, _, _, _⟩) (v := uv y) rfl (by kernel_rfl) (by kernel_rfl) (by kernel_rfl) (fun _ _ _ h => h) (Or.inl ⟨by rfl, ?_⟩) (by assumption) ?_
      · (intro w9 hSw; (try dsimp only at hSw); go_simp)
      try simp only [Act.put, List.setIfInBounds_toArray, List.set_cons_zero, List.set_cons_succ]
      refine wpAnyH_take (i := 7) (oi := ⟨some 21, _, _, _, _, _⟩) (v := uv z) rfl (by kernel_rfl) (by kernel_rfl) (by kernel_rfl) (fun _ _ _ h => h) (Or.inl ⟨by rfl, ?_⟩) (by assumption) ?_
      · (intro w9 hSw; (try dsimp only at hSw); go_simp)
      try simp only [Act.put, List.setIfInBounds_toArray, List.set_cons_zero, List.set_cons_succ]
      refine wpAnyH_ready (rs := [8]) (by kernel_rfl) (by simp) ?_
      refine AllReadyH.cons (o := ⟨some 22, _, _, _, _, _⟩) rfl (fun K9 hK9 => ?_) AllReadyH.nil
      go_simp
      refine hK9.out _ _ ?_ (fun hHeld => ?_)
      · trivial
      clear hK9 K9
      try simp only [Act.put, List.setIfInBounds_toArray, List.set_cons_zero, List.set_cons_succ]
      refine wpAnyH_ready (rs := [9]) (by kernel_rfl) (by simp) ?_
      refine AllReadyH.cons (o := ⟨some 23, _, _, _, _, _⟩) rfl (fun K9 hK9 => ?_) AllReadyH.nil
      refine step_append_lies _ (by rfl) _ _ _ (by rfl) w.heap.size 5 i0 (.int .u8 0) 1 1 Tryz.underlying64 hi hz0 hz1 hz2 rfl (by omega) (.slice (some ⟨g, 0, none⟩) k d) k ((N.take k).map uv) (by rfl) (own_alloc HOD.out (.cells #[uv z] 5)) ⟨wr.heap.size, 0, none⟩ 1 1 [uv z] (by rfl) rfl (World.news_of_block (cs := #[uv z]) (t := 5) (fr := (0, 0)) (heap_alloc_new wr.drew _)) (by simp [Value.oneCell']) (by omega) (by unfold maxLen; omega) (by omega) (by simp; omega) (wr.heap.size + 1) (by simp) ?_
      intro g1 c1 w3 hown3 hgrow hat hlt3
      simp only [Act.put, List.setIfInBounds_toArray, List.set_cons_zero, List.set_cons_succ]
      have hb3 : Below w.heap.size w w3 := (hbD.alloc hbD.size (.cells #[uv z] 5)).grown hgrow (by simp; omega) (fun r e => by cases e; exact (HOD.out.lt _ rfl).1)
      have HO3 := Lib.hid hown3
      clear hown3 hgrow hat hlt3
      refine hK9.out _ _ ?_ (fun hHeld => ?_)
      · trivial
      clear hK9 K9
      try simp only [Act.put, List.setIfInBounds_toArray, List.set_cons_zero, List.set_cons_succ]
      refine wpAnyH_take (i := 10) (oi := ⟨some 5, _, _, _, _, _⟩) (v := ?_) rfl (by kernel_rfl) (by kernel_rfl) (by kernel_rfl) (fun _ _ _ h => h) (Or.inl ⟨by rfl, ?_⟩) (by assumption) ?_
      rotate_left
      · (intro w9 hSw; (try dsimp only at hSw); go_simp; try with_reducible rfl)
      try simp only [Act.put, List.setIfInBounds_toArray, List.set_cons_zero, List.set_cons_succ]
      refine wpAnyH_done (by kernel_rfl) ?_ _
      go_wp2_with fail
      exact ⟨⟨k + 1, g1, c1, by omega, by go_num, rfl, Lib.hid (by rw [HT.out, List.map_append]; exact HO3.out), hb3⟩, by simp [intOf]; omega⟩
    · obtain rfl : k = n := by omega
      rw [List.take_of_length_le (by rw [HN.out]; exact Nat.le_refl _)] at HO
      have HTX := Lib.hid (text_any w.heap.size g k d N wr HO.out HN.out)
      go_wp2_with fail
      refine HTX.out.mono ?_
      rintro e w' ⟨rfl, rfl⟩
      go_wp2_with fail
      go_ret
      exact ⟨rfl, hb⟩
end Go.Proofs.YtcecjoodlmpgnaaGreat
