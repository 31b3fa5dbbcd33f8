/- Texts of this seat, one behind the other: AGMix, ATold, AIs, AGKey, AEnc. -/
import Derived.Test.YtcecjoodlmpgnaaGreatQ16
/- The contract of a grid's mixed. -/
namespace Go.Proofs.YtcecjoodlmpgnaaGreat
open Go.RowKit

set_option maxRecDepth 100000 in
set_option maxHeartbeats 4000000 in
theorem gmixed_any (G : List UInt8) (rv : Value) (w : World) (hG : G.length = 16) :
    Calls Tryz.prog 119 #[.agg (G.map uv).toArray, rv] w fun e w' => e = .returned (.agg ((mixG G).map uv).toArray) ∧ Below w.heap.size w w' := by
  have HG := Lib.hid hG
  have HZ := Lib.hid (zerosL_len 16)
  have HGZ := Lib.hid gzero
  have HN : Hid ((mixG G).length = 16) := Lib.hid (tab_len _ _)
  have HI := Lib.hid (gcol_at G hG)
  have HU : Hid (∀ c, c < 4 → mixW [ub G (c * 4), ub G (c * 4 + 1), ub G (c * 4 + 2), ub G (c * 4 + 3)] = [ub (mixG G) (c * 4), ub (mixG G) (c * 4 + 1), ub (mixG G) (c * 4 + 2), ub (mixG G) (c * 4 + 3)]) := Lib.hid (mixG_col G)
  obtain ⟨N, hN⟩ : ∃ N, mixG G = N := ⟨_, rfl⟩
  rw [hN] at HN HU ⊢
  have H0 : Hid ((G.map uv).toArray = ((cutL (0 * 4) N G).map uv).toArray) := Lib.hid (by rw [Nat.zero_mul, cutL_zero])
  obtain ⟨Z, hZ⟩ : ∃ Z, zerosL 16 = Z := ⟨_, rfl⟩
  rw [hZ] at HZ HGZ
  clear hZ hN hG
  go_enter Tryz.func119, Tryz.ntmps119
  go_upto_region 1 with fail
  rw [HGZ.out]
  have B0 := Lib.hid ((Blk.new w 91 (G.map uv).toArray).alloc (.cells (Z.map uv).toArray 91))
  have Z0 : Hid (Blk ((w.alloc (.cells (G.map uv).toArray 91)).alloc (.cells (Z.map uv).toArray 91)) (w.heap.size + 1) 91 (Z.map uv).toArray) := Lib.hid (Blk.newAt (by simp) _ _)
  have hb0 := ba (ba (Below.refl w.heap.size w) (.cells (G.map uv).toArray 91)) (.cells (Z.map uv).toArray 91)
  generalize (w.alloc (.cells (G.map uv).toArray 91)).alloc (.cells (Z.map uv).toArray 91) = w1 at B0 Z0 hb0
  go_wp2_with (refine wpList_load_row rfl _ _ rfl _ rfl _ _ _ _ B0.out Tryz.underlying91 rfl (glen HG.out) ?_)
  rw [H0.out] at B0
  go_loopw [8] (fun iv wr => ∃ i : Nat, i ≤ 4 ∧ iv = .int .i64 i ∧ Hid (Blk wr (w.heap.size + 1) 91 (Z.map uv).toArray) ∧ Hid (Blk wr w.heap.size 91 ((cutL (i * 4) N G).map uv).toArray) ∧ Below w.heap.size w wr) (fun iv _ => 4 - (intOf iv).toNat)
  case atStart => exact ⟨0, Nat.zero_le _, rfl, Z0, B0, hb0⟩
  case round =>
    clear Z0 B0 hb0
    obtain ⟨c, hc, rfl, Z1, B, hb⟩ := hrel
    by_cases hlt : c < 4
    · have hcl : (c : Int) < 4 := by omega
      have c0 : (0 : Int) ≤ (c : Int) := by omega
      have hix := HI.out c hlt
      have hu := HU.out c hlt
      have HP := Lib.hid (fun (W : World) (t : TypeId) (hB : Blk W w.heap.size t ((cutL (c * 4) N G).map uv).toArray) => put4 hB HN.out HG.out (by omega))
      have HTH := Lib.hid (fun (W : World) (t : TypeId) (hB : Blk W w.heap.size t ((cutL (c * 4) N G).map uv).toArray) => hB.spare (o := c * 4) (n := 4) (by rw [uvs_size, cutL_len HN.out HG.out (by omega)]; omega))
      have HSE : Hid (c * 4 + 4 = (c + 1) * 4) := Lib.hid (by omega)
      obtain ⟨n0, hn0⟩ : ∃ n, ub N (c * 4) = n := ⟨_, rfl⟩
      obtain ⟨n1, hn1⟩ : ∃ n, ub N (c * 4 + 1) = n := ⟨_, rfl⟩
      obtain ⟨n2, hn2⟩ : ∃ n, ub N (c * 4 + 2) = n := ⟨_, rfl⟩
      obtain ⟨n3, hn3⟩ : ∃ n, ub N (c * 4 + 3) = n := ⟨_, rfl⟩
      rw [hn0, hn1, hn2, hn3] at hu HP
      have HM := Lib.hid (fun W => mixed_any (ub G (c * 4)) (ub G (c * 4 + 1)) (ub G (c * 4 + 2)) (ub G (c * 4 + 3)) W)
      rw [hu] at HM
      clear hu
      generalize ub G (c * 4) = x0 at hix HM
      generalize ub G (c * 4 + 1) = x1 at hix HM
      generalize ub G (c * 4 + 2) = x2 at hix HM
      generalize ub G (c * 4 + 3) = x3 at hix HM
      have hz1 := hb.size
      have hz2 := Z1.out.lt
      clear hn0 hn1 hn2 hn3 hlt hc
      go_wp2_with fail
      refine (HM.out _).mono ?_
      rintro e w2 ⟨rfl, hb2⟩
      have B2 := Lib.hid ((B.out.alloc (.cells #[uv x0, uv x1, uv x2, uv x3] 89)).below hb2)
      have Z2 := Lib.hid ((Z1.out.alloc (.cells #[uv x0, uv x1, uv x2, uv x3] 89)).below hb2)
      have hB2 := bt (ba hb (.cells #[uv x0, uv x1, uv x2, uv x3] 89)) hb2
      clear B Z1 hb hb2 hix
      have HT2 : Hid (w2.there w.heap.size (c * 4) (([n0, n1, n2, n3].map uv).toArray).size) := Lib.hid (HTH.out _ _ B2.out)
      have B3 := Lib.hid (HP.out _ _ B2.out)
      have Z3 := Lib.hid (Z2.out.far_ (k := w.heap.size + 1) (g := w.heap.size) (by omega) (c * 4) [uv n0, uv n1, uv n2, uv n3])
      have hb3 := bw hB2 (g := w.heap.size) (Nat.le_refl _) (c * 4) [uv n0, uv n1, uv n2, uv n3]
      go_upto_region 5 with (refine wpList_store_mid rfl _ _ _ rfl w.heap.size (c * 4) ([n0, n1, n2, n3].map uv).toArray rfl rfl HT2.out (by kernel_rfl) (all_oneCell_toArray (uvs_one [n0, n1, n2, n3])) ?_)
      have hset : w2.setCells w.heap.size (c * 4) [uv n0, uv n1, uv n2, uv n3] = w2.setCells w.heap.size (c * 4) ([n0, n1, n2, n3].map uv) := rfl
      rw [hset] at B3 Z3 hb3
      generalize w2.setCells w.heap.size (c * 4) ([n0, n1, n2, n3].map uv) = w3 at B3 Z3 hb3
      clear hset HT2 B2 Z2 hB2
      rw [HSE.out] at B3
      go_wp2_with fail
      exact ⟨⟨c + 1, by omega, by go_num, Z3, B3, hb3⟩, by simp [intOf]; omega⟩
    · obtain rfl : c = 4 := by omega
      have hB := B.out
      rw [show 4 * 4 = 16 from rfl, cutL_all HN.out HG.out] at hB
      have HBN := Lib.hid hB
      have HONE := Lib.hid (uvs_one N)
      clear hB B
      go_wp2_with (first | (refine wpList_load_row rfl _ _ rfl _ rfl _ _ _ _ HBN.out Tryz.underlying91 rfl (glen HN.out) ?_) | (refine wpList_store_mid rfl _ _ _ rfl _ _ (N.map uv).toArray rfl rfl (gthere Z1.out HZ.out HN.out) (glen HN.out) (all_oneCell_toArray HONE.out) ?_))
      have hW := Z1.out.whole (N.map uv) (by rw [List.length_map, uvs_size, HN.out, HZ.out])
      refine bodyPost_ret (v := .agg (N.map uv).toArray) (results_cell_row rfl _ _ _ _ _ _ _ rfl hW Tryz.underlying91 rfl (glen HN.out)) rfl ?_
      exact ⟨rfl, bw hb (by omega) _ _⟩
end Go.Proofs.YtcecjoodlmpgnaaGreat
/- The contract of a grid's told: its bytes as a text. -/
namespace Go.Proofs.YtcecjoodlmpgnaaGreat
open Go.RowKit

theorem text_of {W : World} {g n c : Nat} {t : TypeId} {L : List UInt8} (h : Blk W g t (L.map uv).toArray) (hl : L.length = n) : (convert 64 9 (.slice (some ⟨g, 0, none⟩) n c)).run Tryz.prog W = .ok (.string ⟨L.toArray⟩) W := by
  subst hl
  refine run_convert_bytes_back (P := Tryz.prog) W 64 9 5 ⟨g, 0, none⟩ c L Tryz.underlying64 Tryz.underlying5 Tryz.underlying9 (fun j hj => ?_)
  rw [Addr.add_mid, Nat.zero_add, h.cell]
  have : j < L.length := by simpa using hj
  simp [this]
theorem make_bytes (n m : Nat) (hn : n ≤ m) (hm : m ≤ 65536) (W : World) : (Instr.makeSlice 64 (.int .i64 (n : Int)) (.int .i64 (m : Int))).run Tryz.prog W = .ok (.slice (some ⟨W.heap.size, 0, none⟩) n m) (W.alloc (.cells ((zerosL (m * 1)).map uv).toArray 5)) := by
  obtain ⟨i0, hi, hz0, hz1, hz2⟩ := info_parts info5
  have h := run_makeSlice (P := Tryz.prog) W 64 5 i0 (.int .u8 0) Tryz.underlying64 hi hz0 .i64 .i64 n m (by omega) (by omega) (by rw [hz1]; omega) (by rw [hz2]; omega) (by omega)
  rw [hz1, made_zeros _ 1 _ rfl (by omega) (fun i hi => by
    obtain rfl : i = 0 := by omega
    rfl)] at h
  exact h

set_option maxRecDepth 100000 in
set_option maxHeartbeats 2000000 in
theorem told_any (G : List UInt8) (w : World) (hG : G.length = 16) :
    Calls Tryz.prog 60 #[.agg (G.map uv).toArray] w fun e w' => e = .returned (.string ⟨G.toArray⟩) ∧ Below w.heap.size w w' := by
  obtain ⟨i0, hi, hz0, hz1, hz2⟩ := info_parts info5
  have HG := Lib.hid hG
  have HZ := Lib.hid (zerosL_len 16)
  have hmk : ∀ W : World, (Instr.makeSlice 64 (.int .i64 0) (.int .i64 16)).run Tryz.prog W = .ok (.slice (some ⟨W.heap.size, 0, none⟩) 0 16) (W.alloc (.cells ((zerosL 16).map uv).toArray 5)) := make_bytes 0 16 (by omega) (by omega)
  have HI := Lib.hid (gcol_at G hG)
  have H0 : Hid (((zerosL 16).map uv).toArray = ((cutL (0 * 4) G (zerosL 16)).map uv).toArray) := Lib.hid (by rw [Nat.zero_mul, cutL_zero])
  obtain ⟨Z, hZ⟩ : ∃ Z, zerosL 16 = Z := ⟨_, rfl⟩
  rw [hZ] at HZ hmk H0
  clear hZ hG
  have B0 := Lib.hid ((Blk.new w 91 (G.map uv).toArray).alloc (.cells (Z.map uv).toArray 5))
  have Z0 : Hid (Blk ((w.alloc (.cells (G.map uv).toArray 91)).alloc (.cells (Z.map uv).toArray 5)) (w.heap.size + 1) 5 (Z.map uv).toArray) := Lib.hid (Blk.newAt (by simp) _ _)
  have hb0 := ba (ba (Below.refl w.heap.size w) (.cells (G.map uv).toArray 91)) (.cells (Z.map uv).toArray 5)
  have hmk1 := hmk (w.alloc (.cells (G.map uv).toArray 91))
  have hsz1 : (w.alloc (.cells (G.map uv).toArray 91)).heap.size = w.heap.size + 1 := by simp
  rw [hsz1] at hmk1
  generalize (w.alloc (.cells (G.map uv).toArray 91)).alloc (.cells (Z.map uv).toArray 5) = w1 at B0 Z0 hb0 hmk1
  rw [H0.out] at Z0
  clear hmk hsz1
  go_enter Tryz.func60, Tryz.ntmps60
  go_wp2_with (refine wpList_load_row rfl _ _ rfl _ rfl _ _ _ _ B0.out Tryz.underlying91 rfl (glen HG.out) ?_)
  go_loopw [3, 8] (fun ov iv wr => ∃ i : Nat, i ≤ 4 ∧ iv = .int .i64 i ∧ ov = .slice (some ⟨w.heap.size + 1, 0, none⟩) (i * 4) 16 ∧ Hid (Blk wr (w.heap.size + 1) 5 ((cutL (i * 4) G Z).map uv).toArray) ∧ Below w.heap.size w wr) (fun _ iv _ => 4 - (intOf iv).toNat)
  case atStart => exact ⟨0, Nat.zero_le _, rfl, rfl, Z0, hb0⟩
  case round =>
    clear Z0 B0 hb0 hmk1
    obtain ⟨c, hc, rfl, rfl, B, hb⟩ := hrel
    by_cases hlt : c < 4
    · have hcl : (c : Int) < 4 := by omega
      have c0 : (0 : Int) ≤ (c : Int) := by omega
      have hix := HI.out c hlt
      have HP := Lib.hid (fun (W : World) (t : TypeId) (hB : Blk W (w.heap.size + 1) t ((cutL (c * 4) G Z).map uv).toArray) => put4 hB HG.out HZ.out (by omega))
      have HSP := Lib.hid (fun (W : World) (t : TypeId) (hB : Blk W (w.heap.size + 1) t ((cutL (c * 4) G Z).map uv).toArray) => hB.spare (o := c * 4) (n := 4) (by rw [uvs_size, cutL_len HG.out HZ.out (by omega)]; omega))
      have HSE : Hid (c * 4 + 4 = (c + 1) * 4) := Lib.hid (by omega)
      generalize ub G (c * 4) = n0 at hix HP
      generalize ub G (c * 4 + 1) = n1 at hix HP
      generalize ub G (c * 4 + 2) = n2 at hix HP
      generalize ub G (c * 4 + 3) = n3 at hix HP
      have HNW := Lib.hid (news_new wr [uv n0, uv n1, uv n2, uv n3] 89)
      have HB2 := Lib.hid (B.out.alloc (.cells #[uv n0, uv n1, uv n2, uv n3] 89))
      have hb2 := ba hb (.cells #[uv n0, uv n1, uv n2, uv n3] 89)
      have HB3 := Lib.hid (HP.out _ _ HB2.out)
      have hb3 := bw hb2 (g := w.heap.size + 1) (by omega) (c * 4) [uv n0, uv n1, uv n2, uv n3]
      have hc16 : c * 4 + 4 ≤ 16 := by omega
      rw [HSE.out] at HB3
      clear hb B hc
      go_upto_region 6 with (at_builtin; refine wpList_append_room rfl (.tmp 11) (.tmp 12) 64 rfl 5 i0 1 Tryz.underlying64 hi hz1 (w.heap.size + 1) 0 (c * 4) 16 rfl ⟨wr.heap.size, 0, none⟩ 4 4 [uv n0, uv n1, uv n2, uv n3] rfl rfl HNW.out (uvs_one [n0, n1, n2, n3]) hc16 (by rw [Nat.zero_add, Nat.mul_one]; exact HSP.out _ _ HB2.out) ?_)
      generalize (wr.alloc (.cells #[uv n0, uv n1, uv n2, uv n3] 89)).setCells (w.heap.size + 1) (c * 4) [uv n0, uv n1, uv n2, uv n3] = w3 at HB3 hb3
      clear HB2 HSP HP HNW hb2 hix
      go_wp2_with fail
      exact ⟨⟨c + 1, by omega, by go_num, by rw [HSE.out], HB3, hb3⟩, by simp [intOf]; omega⟩
    · obtain rfl : c = 4 := by omega
      have hB := B.out
      rw [show 4 * 4 = 16 from rfl, cutL_all HG.out HZ.out] at hB
      have hcv := text_of (n := 16) (c := 16) hB HG.out
      have HBN := Lib.hid hB
      clear hB B
      go_wp2
      go_ret
      exact ⟨rfl, hb⟩
end Go.Proofs.YtcecjoodlmpgnaaGreat
/- The contracts of isBlock and isKey. -/
namespace Go.Proofs.YtcecjoodlmpgnaaGreat
open Go.RowKit

set_option maxRecDepth 100000 in
set_option maxHeartbeats 1000000 in
theorem isBlock_yes (l : List UInt8) (w : World) (hl : l.length = 16) : Calls Tryz.prog 55 #[.string ⟨l.toArray⟩] w fun e w' => e = .returned (.bool true) ∧ w = w' := by
  have hs := size_of l
  rw [hl] at hs
  go_enter Tryz.func55, Tryz.ntmps55
  go_wp2
  go_ret
  exact ⟨rfl, rfl⟩
set_option maxRecDepth 100000 in
set_option maxHeartbeats 1000000 in
theorem isBlock_no (l : List UInt8) (w : World) (hl : l.length ≠ 16) : Calls Tryz.prog 55 #[.string ⟨l.toArray⟩] w fun e w' => e = .returned (.bool false) ∧ w = w' := by
  have hs := size_of l
  obtain ⟨n, hn⟩ : ∃ n, l.length = n := ⟨_, rfl⟩
  rw [hn] at hs hl
  have h1 : ((n : Int) == 16) = false := by simp; omega
  have h2 : ¬ (n : Int) = 16 := by omega
  clear hn
  go_enter Tryz.func55, Tryz.ntmps55
  go_wp2
  go_ret
  exact ⟨rfl, rfl⟩
set_option maxRecDepth 100000 in
set_option maxHeartbeats 1000000 in
theorem isKey_yes (l : List UInt8) (w : World) (hl : l.length = 16 ∨ l.length = 32) : Calls Tryz.prog 54 #[.string ⟨l.toArray⟩] w fun e w' => e = .returned (.bool true) ∧ w = w' := by
  have hs := size_of l
  rcases hl with hl | hl
  all_goals
    rw [hl] at hs
    go_enter Tryz.func54, Tryz.ntmps54
    go_wp2
    go_ret
    exact ⟨rfl, rfl⟩
set_option maxRecDepth 100000 in
set_option maxHeartbeats 1000000 in
theorem isKey_no (l : List UInt8) (w : World) (hl : ¬ (l.length = 16 ∨ l.length = 32)) : Calls Tryz.prog 54 #[.string ⟨l.toArray⟩] w fun e w' => e = .returned (.bool false) ∧ w = w' := by
  have hs := size_of l
  obtain ⟨n, hn⟩ : ∃ n, l.length = n := ⟨_, rfl⟩
  rw [hn] at hs hl
  have h1 : ((n : Int) == 16) = false := by simp; omega
  have h2 : ((n : Int) == 32) = false := by simp; omega
  have h3 : ¬ n = 16 := by omega
  have h4 : ¬ n = 32 := by omega
  clear hn
  go_enter Tryz.func54, Tryz.ntmps54
  go_wp2
  go_ret
  exact ⟨rfl, rfl⟩
end Go.Proofs.YtcecjoodlmpgnaaGreat
/- The contract of a grid's keyed. -/
namespace Go.Proofs.YtcecjoodlmpgnaaGreat
open Go.RowKit

set_option maxRecDepth 100000 in
set_option maxHeartbeats 4000000 in
theorem gkeyed_any (G : List UInt8) (K : List UInt8) (r gb : Nat) (w : World) (hG : G.length = 16) (hK : K.length = 16) (hr : Blk w r 124 (rnd K gb)) :
    Calls Tryz.prog 116 #[.agg (G.map uv).toArray, .pointer (some ⟨r, 0, none⟩)] w fun e w' => e = .returned (.agg ((keyG G K).map uv).toArray) ∧ Below w.heap.size w w' := by
  have HG := Lib.hid hG
  have HZ := Lib.hid (zerosL_len 16)
  have HGZ := Lib.hid gzero
  have HN : Hid ((keyG G K).length = 16) := Lib.hid (tab_len _ _)
  have HI := Lib.hid (gcol_at G hG)
  have HU : Hid (∀ c, c < 4 → xorW [ub G (c * 4), ub G (c * 4 + 1), ub G (c * 4 + 2), ub G (c * 4 + 3)] [ub K (c * 4), ub K (c * 4 + 1), ub K (c * 4 + 2), ub K (c * 4 + 3)] = [ub (keyG G K) (c * 4), ub (keyG G K) (c * 4 + 1), ub (keyG G K) (c * 4 + 2), ub (keyG G K) (c * 4 + 3)]) := Lib.hid (keyG_col G K)
  have HRW := Lib.hid hr
  have HRB := Lib.hid (fun i (hi : i < 16) => rnd_key gb hK hi)
  clear hr hK
  obtain ⟨N, hN⟩ : ∃ N, keyG G K = N := ⟨_, rfl⟩
  rw [hN] at HN HU ⊢
  have H0 : Hid ((G.map uv).toArray = ((cutL (0 * 4) N G).map uv).toArray) := Lib.hid (by rw [Nat.zero_mul, cutL_zero])
  obtain ⟨Z, hZ⟩ : ∃ Z, zerosL 16 = Z := ⟨_, rfl⟩
  rw [hZ] at HZ HGZ
  clear hZ hN hG
  go_enter Tryz.func116, Tryz.ntmps116
  go_upto_region 1 with fail
  rw [HGZ.out]
  have B0 := Lib.hid ((Blk.new w 91 (G.map uv).toArray).alloc (.cells (Z.map uv).toArray 91))
  have Z0 : Hid (Blk ((w.alloc (.cells (G.map uv).toArray 91)).alloc (.cells (Z.map uv).toArray 91)) (w.heap.size + 1) 91 (Z.map uv).toArray) := Lib.hid (Blk.newAt (by simp) _ _)
  have hb0 := ba (ba (Below.refl w.heap.size w) (.cells (G.map uv).toArray 91)) (.cells (Z.map uv).toArray 91)
  generalize (w.alloc (.cells (G.map uv).toArray 91)).alloc (.cells (Z.map uv).toArray 91) = w1 at B0 Z0 hb0
  go_wp2_with (refine wpList_load_row rfl _ _ rfl _ rfl _ _ _ _ B0.out Tryz.underlying91 rfl (glen HG.out) ?_)
  rw [H0.out] at B0
  go_loopw [8] (fun iv wr => ∃ i : Nat, i ≤ 4 ∧ iv = .int .i64 i ∧ Hid (Blk wr (w.heap.size + 1) 91 (Z.map uv).toArray) ∧ Hid (Blk wr w.heap.size 91 ((cutL (i * 4) N G).map uv).toArray) ∧ Below w.heap.size w wr) (fun iv _ => 4 - (intOf iv).toNat)
  case atStart => exact ⟨0, Nat.zero_le _, rfl, Z0, B0, hb0⟩
  case round =>
    clear Z0 B0 hb0
    obtain ⟨c, hc, rfl, Z1, B, hb⟩ := hrel
    by_cases hlt : c < 4
    · have hcl : (c : Int) < 4 := by omega
      have c0 : (0 : Int) ≤ (c : Int) := by omega
      have hix := HI.out c hlt
      have hu := HU.out c hlt
      have HP := Lib.hid (fun (W : World) (t : TypeId) (hB : Blk W w.heap.size t ((cutL (c * 4) N G).map uv).toArray) => put4 hB HN.out HG.out (by omega))
      have HTH := Lib.hid (fun (W : World) (t : TypeId) (hB : Blk W w.heap.size t ((cutL (c * 4) N G).map uv).toArray) => hB.spare (o := c * 4) (n := 4) (by rw [uvs_size, cutL_len HN.out HG.out (by omega)]; omega))
      have HSE : Hid (c * 4 + 4 = (c + 1) * 4) := Lib.hid (by omega)
      obtain ⟨n0, hn0⟩ : ∃ n, ub N (c * 4) = n := ⟨_, rfl⟩
      obtain ⟨n1, hn1⟩ : ∃ n, ub N (c * 4 + 1) = n := ⟨_, rfl⟩
      obtain ⟨n2, hn2⟩ : ∃ n, ub N (c * 4 + 2) = n := ⟨_, rfl⟩
      obtain ⟨n3, hn3⟩ : ∃ n, ub N (c * 4 + 3) = n := ⟨_, rfl⟩
      rw [hn0, hn1, hn2, hn3] at hu HP
      have HM := Lib.hid (fun W => xor_any (ub G (c * 4)) (ub G (c * 4 + 1)) (ub G (c * 4 + 2)) (ub G (c * 4 + 3)) (ub K (c * 4)) (ub K (c * 4 + 1)) (ub K (c * 4 + 2)) (ub K (c * 4 + 3)) W)
      rw [hu] at HM
      have HRC : Hid ((rnd K gb)[c * 4]? = some (uv (ub K (c * 4))) ∧ (rnd K gb)[c * 4 + 1]? = some (uv (ub K (c * 4 + 1))) ∧ (rnd K gb)[c * 4 + 2]? = some (uv (ub K (c * 4 + 2))) ∧ (rnd K gb)[c * 4 + 3]? = some (uv (ub K (c * 4 + 3)))) := Lib.hid ⟨HRB.out _ (by omega), HRB.out _ (by omega), HRB.out _ (by omega), HRB.out _ (by omega)⟩
      generalize ub K (c * 4) = k0 at HM HRC
      generalize ub K (c * 4 + 1) = k1 at HM HRC
      generalize ub K (c * 4 + 2) = k2 at HM HRC
      generalize ub K (c * 4 + 3) = k3 at HM HRC
      clear hu
      generalize ub G (c * 4) = x0 at hix HM
      generalize ub G (c * 4 + 1) = x1 at hix HM
      generalize ub G (c * 4 + 2) = x2 at hix HM
      generalize ub G (c * 4 + 3) = x3 at hix HM
      have hz1 := hb.size
      have hz2 := Z1.out.lt
      clear hn0 hn1 hn2 hn3 hlt hc
      go_wp2_with fail
      have BA := Lib.hid (B.out.alloc (.cells #[uv x0, uv x1, uv x2, uv x3] 89)).drew
      have ZA := Lib.hid (Z1.out.alloc (.cells #[uv x0, uv x1, uv x2, uv x3] 89)).drew
      have hbA := (ba hb (.cells #[uv x0, uv x1, uv x2, uv x3] 89)).drew
      have WA := Lib.hid (Blk.new wr 89 #[uv x0, uv x1, uv x2, uv x3]).drew
      have RA := Lib.hid (((HRW.out.below hb).alloc (.cells #[uv x0, uv x1, uv x2, uv x3] 89))).drew
      have zq := B.out.lt
      clear B Z1 hb hix
      refine wp_region_held_drew (S := fun W => Blk W wr.heap.size 89 #[uv x0, uv x1, uv x2, uv x3] ∧ Blk W r 124 (rnd K gb)) (by kernel_rfl) ?_ (fun hHeld => ?_)
      · exact ⟨WA.out, RA.out⟩
      refine wpAnyH_take (i := 0) (oi := ⟨some 12, _, _, _, _, _⟩) (v := ?_) rfl (by kernel_rfl) (by kernel_rfl) (by kernel_rfl) (fun _ _ _ h => h) (Or.inl ⟨by rfl, ?_⟩) (by assumption) ?_
      rotate_left
      · (intro w9 hSw; (try dsimp only at hSw); go_simp; try with_reducible rfl)
      try simp only [Act.put, List.setIfInBounds_toArray, List.set_cons_zero, List.set_cons_succ]
      refine wpAnyH_take (i := 1) (oi := ⟨some 13, _, _, _, _, _⟩) (v := .agg #[uv x0, uv x1, uv x2, uv x3]) rfl (by kernel_rfl) (by kernel_rfl) (by kernel_rfl) (fun _ _ _ h => h) (Or.inl ⟨by rfl, ?_⟩) (by assumption) ?_
      · (intro w9 hSw; have q0 := hSw.1.cell 0; have q1 := hSw.1.cell 1; have q2 := hSw.1.cell 2; have q3 := hSw.1.cell 3; simp only [List.getElem?_toArray, List.getElem?_cons_zero, List.getElem?_cons_succ] at q0 q1 q2 q3; (try dsimp only at hSw); go_simp)
      try simp only [Act.put, List.setIfInBounds_toArray, List.set_cons_zero, List.set_cons_succ]
      refine wpAnyH_take (i := 2) (oi := ⟨some 14, _, _, _, _, _⟩) (v := ?_) rfl (by kernel_rfl) (by kernel_rfl) (by kernel_rfl) (fun _ _ _ h => h) (Or.inl ⟨by rfl, ?_⟩) (by assumption) ?_
      rotate_left
      · (intro w9 hSw; (try dsimp only at hSw); go_simp; try with_reducible rfl)
      try simp only [Act.put, List.setIfInBounds_toArray, List.set_cons_zero, List.set_cons_succ]
      refine wpAnyH_take (i := 3) (oi := ⟨some 15, _, _, _, _, _⟩) (v := ?_) rfl (by kernel_rfl) (by kernel_rfl) (by kernel_rfl) (fun _ _ _ h => h) (Or.inl ⟨by rfl, ?_⟩) (by assumption) ?_
      rotate_left
      · (intro w9 hSw; (try dsimp only at hSw); go_simp; try with_reducible rfl)
      try simp only [Act.put, List.setIfInBounds_toArray, List.set_cons_zero, List.set_cons_succ]
      refine wpAnyH_take (i := 4) (oi := ⟨some 16, _, _, _, _, _⟩) (v := ?_) rfl (by kernel_rfl) (by kernel_rfl) (by kernel_rfl) (fun _ _ _ h => h) (Or.inl ⟨by rfl, ?_⟩) (by assumption) ?_
      rotate_left
      · (intro w9 hSw; (try dsimp only at hSw); go_simp; try with_reducible rfl)
      try simp only [Act.put, List.setIfInBounds_toArray, List.set_cons_zero, List.set_cons_succ]
      refine wpAnyH_take (i := 5) (oi := ⟨some 17, _, _, _, _, _⟩) (v := ?_) rfl (by kernel_rfl) (by kernel_rfl) (by kernel_rfl) (fun _ _ _ h => h) (Or.inl ⟨by rfl, ?_⟩) (by assumption) ?_
      rotate_left
      · (intro w9 hSw; (try dsimp only at hSw); go_simp; try with_reducible rfl)
      try simp only [Act.put, List.setIfInBounds_toArray, List.set_cons_zero, List.set_cons_succ]
      refine wpAnyH_take (i := 6) (oi := ⟨some 18, _, _, _, _, _⟩) (v := .pointer (some ⟨r, c * 4, none⟩)) rfl (by kernel_rfl) (by kernel_rfl) (by kernel_rfl) (fun _ _ _ h => h) (Or.inl ⟨by rfl, ?_⟩) (by assumption) ?_
      · (intro w9 hSw; (try dsimp only at hSw); go_simp)
      try simp only [Act.put, List.setIfInBounds_toArray, List.set_cons_zero, List.set_cons_succ]
      refine wpAnyH_take (i := 7) (oi := ⟨some 19, _, _, _, _, _⟩) (v := .agg #[uv k0, uv k1, uv k2, uv k3]) rfl (by kernel_rfl) (by kernel_rfl) (by kernel_rfl) (fun _ _ _ h => h) (Or.inl ⟨by rfl, ?_⟩) (by assumption) ?_
      · (intro w9 hSw; have q0 := (hSw.2.cell (c * 4)).trans HRC.out.1; have q1 := (hSw.2.cell (c * 4 + 1)).trans HRC.out.2.1; have q2 := (hSw.2.cell (c * 4 + 2)).trans HRC.out.2.2.1; have q3 := (hSw.2.cell (c * 4 + 3)).trans HRC.out.2.2.2; (try dsimp only at hSw); go_simp)
      try simp only [Act.put, List.setIfInBounds_toArray, List.set_cons_zero, List.set_cons_succ]
      refine wpAnyH_ready (rs := [8]) (by kernel_rfl) (by simp) ?_
      refine AllReadyH.cons (o := ⟨some 20, _, _, _, _, _⟩) rfl (fun K9 hK9 => ?_) AllReadyH.nil
      go_simp
      go_at_call 120
      refine (HM.out _).mono ?_
      rintro e w2 ⟨rfl, hb2⟩
      have hS6 : Blk w2 wr.heap.size 89 #[uv x0, uv x1, uv x2, uv x3] ∧ Blk w2 r 124 (rnd K gb) := ⟨WA.out.below hb2, RA.out.below hb2⟩
      go_wp2_with fail
      refine hK9.out _ _ ?_ (fun hHeld => ?_)
      · assumption
      clear hK9 K9
      try simp only [Act.put, List.setIfInBounds_toArray, List.set_cons_zero, List.set_cons_succ]
      refine wpAnyH_take (i := 9) (oi := ⟨some 21, _, _, _, _, _⟩) (v := .pointer (some ⟨w.heap.size, c * 4, none⟩)) rfl (by kernel_rfl) (by kernel_rfl) (by kernel_rfl) (fun _ _ _ h => h) (Or.inl ⟨by rfl, ?_⟩) (by assumption) ?_
      · (intro w9 hSw; (try dsimp only at hSw); go_simp)
      try simp only [Act.put, List.setIfInBounds_toArray, List.set_cons_zero, List.set_cons_succ]
      refine wpAnyH_ready (rs := [10]) (by kernel_rfl) (by simp) ?_
      refine AllReadyH.cons (o := ⟨none, _, _, _, _, _⟩) rfl (fun K9 hK9 => ?_) AllReadyH.nil
      have B2 := Lib.hid (BA.out.below hb2)
      have Z2 := Lib.hid (ZA.out.below hb2)
      have hB2 := bt hbA hb2
      have HRN : Hid (r < w.heap.size) := Lib.hid HRW.out.lt
      have HT2 : Hid (w2.there w.heap.size (c * 4) (([n0, n1, n2, n3].map uv).toArray).size) := Lib.hid (HTH.out _ _ B2.out)
      have B3 := Lib.hid (HP.out _ _ B2.out)
      have Z3 := Lib.hid (Z2.out.far_ (k := w.heap.size + 1) (g := w.heap.size) (by omega) (c * 4) [uv n0, uv n1, uv n2, uv n3])
      have hb3 := bw hB2 (g := w.heap.size) (Nat.le_refl _) (c * 4) [uv n0, uv n1, uv n2, uv n3]
      have hset : w2.setCells w.heap.size (c * 4) [uv n0, uv n1, uv n2, uv n3] = w2.setCells w.heap.size (c * 4) ([n0, n1, n2, n3].map uv) := rfl
      rw [hset] at B3 Z3 hb3

      have hS8 : Blk (w2.setCells w.heap.size (c * 4) ([n0, n1, n2, n3].map uv)) wr.heap.size 89 #[uv x0, uv x1, uv x2, uv x3] ∧ Blk (w2.setCells w.heap.size (c * 4) ([n0, n1, n2, n3].map uv)) r 124 (rnd K gb) := ⟨hS6.1.far_ (by omega) _ _, hS6.2.far_ (by have := HRN.out; omega) _ _⟩
      refine step_store_mid rfl _ _ _ rfl w.heap.size (c * 4) ([n0, n1, n2, n3].map uv).toArray (by rfl) (by rfl) HT2.out (by kernel_rfl) (all_oneCell_toArray (uvs_one [n0, n1, n2, n3])) ?_
      refine hK9.out _ _ ?_ (fun hHeld => ?_)
      · exact hS8
      clear hK9 K9
      try simp only [Act.put]
      refine wpAnyH_done (by kernel_rfl) ?_ _
      generalize w2.setCells w.heap.size (c * 4) ([n0, n1, n2, n3].map uv) = w3 at B3 Z3 hb3
      clear hset HT2 B2 Z2 hB2 hS6 hS8 hHeld BA ZA hbA WA RA hb2
      rw [HSE.out] at B3
      go_wp2_with fail
      exact ⟨⟨c + 1, by omega, by go_num, Z3, B3, hb3⟩, by simp [intOf]; omega⟩
    · obtain rfl : c = 4 := by omega
      have hB := B.out
      rw [show 4 * 4 = 16 from rfl, cutL_all HN.out HG.out] at hB
      have HBN := Lib.hid hB
      have HONE := Lib.hid (uvs_one N)
      clear hB B
      go_wp2_with (first | (refine wpList_load_row rfl _ _ rfl _ rfl _ _ _ _ HBN.out Tryz.underlying91 rfl (glen HN.out) ?_) | (refine wpList_store_mid rfl _ _ _ rfl _ _ (N.map uv).toArray rfl rfl (gthere Z1.out HZ.out HN.out) (glen HN.out) (all_oneCell_toArray HONE.out) ?_))
      have hW := Z1.out.whole (N.map uv) (by rw [List.length_map, uvs_size, HN.out, HZ.out])
      refine bodyPost_ret (v := .agg (N.map uv).toArray) (results_cell_row rfl _ _ _ _ _ _ _ rfl hW Tryz.underlying91 rfl (glen HN.out)) rfl ?_
      exact ⟨rfl, bw hb (by omega) _ _⟩
end Go.Proofs.YtcecjoodlmpgnaaGreat
/- The contracts of steps and of a grid's encrypted. -/
namespace Go.Proofs.YtcecjoodlmpgnaaGreat
open Go.RowKit

/-- What a step does, by its function's number. -/
def semF (K : List UInt8) (f : Nat) (s : List UInt8) : List UInt8 :=
  if f = 116 then keyG s K else if f = 117 then boxG s else if f = 118 then turnG s else mixG s
theorem semF_len (K : List UInt8) (f : Nat) (s : List UInt8) : (semF K f s).length = 16 := by
  unfold semF
  split
  · exact tab_len _ _
  · split
    · exact tab_len _ _
    · split <;> exact tab_len _ _
def applyF (K : List UInt8) (fs : List Nat) (s : List UInt8) : List UInt8 := fs.foldl (fun s f => semF K f s) s
theorem applyF_take (K : List UInt8) (fs : List Nat) (s : List UInt8) (k : Nat) (h : k < fs.length) : applyF K (fs.take (k + 1)) s = semF K (fs.getD k 0) (applyF K (fs.take k) s) := by
  unfold applyF
  rw [List.take_succ_eq_append_getElem h, List.foldl_append]
  simp [List.getD, h]
theorem applyF_len (K : List UInt8) (fs : List Nat) (s : List UInt8) (hs : s.length = 16) : (applyF K fs s).length = 16 := by
  induction fs generalizing s with
  | nil => exact hs
  | cons f fs ih => exact ih _ (semF_len K f s)
def fsOf (i last : Nat) : List Nat :=
  if i = 0 then [116]
  else if i = last then [117, 118, 116]
  else [117, 118, 119, 116]
theorem roundE_is (last : Nat) (F s : List UInt8) (i : Nat) : roundE last F s i = applyF (keyAt F i) (fsOf i last) s := by
  unfold roundE fsOf
  by_cases h0 : i = 0
  · rw [if_pos h0, if_pos h0, h0]; rfl
  · rw [if_neg h0, if_neg h0]
    by_cases h1 : i = last
    · rw [if_pos h1, if_pos h1]; rfl
    · rw [if_neg h1, if_neg h1]; rfl
theorem fsOf_mem (i last k : Nat) (h : k < (fsOf i last).length) : (fsOf i last).getD k 0 = 116 ∨ (fsOf i last).getD k 0 = 117 ∨ (fsOf i last).getD k 0 = 118 ∨ (fsOf i last).getD k 0 = 119 := by
  unfold fsOf at h ⊢
  by_cases h0 : i = 0
  · rw [if_pos h0] at h ⊢
    obtain rfl : k = 0 := by simpa using h
    decide
  · rw [if_neg h0] at h ⊢
    by_cases h1 : i = last
    · rw [if_pos h1] at h ⊢
      obtain rfl | rfl | rfl : k = 0 ∨ k = 1 ∨ k = 2 := by simp at h; omega
      all_goals decide
    · rw [if_neg h1] at h ⊢
      obtain rfl | rfl | rfl | rfl : k = 0 ∨ k = 1 ∨ k = 2 ∨ k = 3 := by simp at h; omega
      all_goals decide
/-- A function's value. -/
def fcell (f : Nat) : Value := .func (.func f) #[] #[]
theorem fcell_at (fs : List Nat) (k : Nat) (h : k < fs.length) : ((fs.map fcell).toArray)[k]? = some (fcell (fs.getD k 0)) := by simp [h, List.getD]

set_option maxRecDepth 100000 in
set_option maxHeartbeats 1000000 in
theorem steps_any (i last : Nat) (w : World) (hi : (i : Int) ≤ 1000) (hl : (last : Int) ≤ 1000) :
    Calls Tryz.prog 87 #[.int .i64 (i : Int), .int .i64 (last : Int)] w fun e w' => ∃ g, e = .returned (.slice (some ⟨g, 0, none⟩) (fsOf i last).length (fsOf i last).length) ∧ w.heap.size ≤ g ∧ Blk w' g 128 ((fsOf i last).map fcell).toArray ∧ Below w.heap.size w w' := by
  by_cases h0 : i = 0
  · have e : fsOf i last = [116] := by unfold fsOf; rw [if_pos h0]
    rw [e]
    subst h0
    go_enter Tryz.func87, Tryz.ntmps87
    go_wp2
    go_ret
    exact ⟨_, rfl, Nat.le_refl _, Blk.new w _ _, ba (Below.refl _ _) _⟩
  · by_cases h1 : i = last
    · have e : fsOf i last = [117, 118, 116] := by unfold fsOf; rw [if_neg h0, if_pos h1]
      rw [e]
      subst h1
      have z0 : ((i : Int) == 0) = false := by simp; omega
      go_enter Tryz.func87, Tryz.ntmps87
      go_wp2
      go_ret
      exact ⟨_, rfl, Nat.le_refl _, Blk.new w _ _, ba (Below.refl _ _) _⟩
    · have e : fsOf i last = [117, 118, 119, 116] := by unfold fsOf; rw [if_neg h0, if_neg h1]
      rw [e]
      have z0 : ((i : Int) == 0) = false := by simp; omega
      have z1 : ((i : Int) == (last : Int)) = false := by simp; omega
      go_enter Tryz.func87, Tryz.ntmps87
      go_wp2
      go_ret
      exact ⟨_, rfl, Nat.le_refl _, Blk.new w _ _, ba (Below.refl _ _) _⟩
end Go.Proofs.YtcecjoodlmpgnaaGreat
