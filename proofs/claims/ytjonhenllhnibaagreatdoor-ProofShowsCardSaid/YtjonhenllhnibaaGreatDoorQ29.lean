/- Texts of this seat, one behind the other: PProve. -/
import Derived.Deep.RegionHeld3
import Derived.Test.YtjonhenllhnibaaGreatDoorQ18
import Derived.Test.YtjonhenllhnibaaGreatDoorQ19
import Derived.Test.YtjonhenllhnibaaGreatDoorQ23
import Derived.Test.YtjonhenllhnibaaGreatDoorQ28
/- The contract of package proof's Prove. -/
namespace Go.Proofs.YtjonhenllhnibaaGreatDoor
open Go.RowKit

theorem pf_result {fn : Func} {p u : Tmp} {tmps : Array Value} {W : World} {g : Nat} {x y v : Value} (h : fn.results = #[.cell p 26, .tmp u]) (hb : Blk W g 26 #[x, y]) (hp : tmps.getD p undef = .pointer (some ⟨g, 0, none⟩) := by rfl) (hv : tmps.getD u undef = v := by rfl) :
    (results fn tmps).run Tryz.prog W = .ok (.tuple #[.agg #[x, y], v]) W := by
  have q0 := hb.cell 0
  have q1 := hb.cell 1
  simp only [List.getElem?_toArray, List.getElem?_cons_zero, List.getElem?_cons_succ] at q0 q1
  simp only [Array.getD_eq_getD_getElem?] at hp hv
  simp [results, h, go_sem, hp, q0, q1, hv]
theorem pf1_result {fn : Func} {p : Tmp} {tmps : Array Value} {W : World} {g : Nat} {x y : Value} (h : fn.results = #[.cell p 26]) (hb : Blk W g 26 #[x, y]) (hp : tmps.getD p undef = .pointer (some ⟨g, 0, none⟩) := by rfl) :
    (results fn tmps).run Tryz.prog W = .ok (.agg #[x, y]) W := by
  have q0 := hb.cell 0
  have q1 := hb.cell 1
  simp only [List.getElem?_toArray, List.getElem?_cons_zero, List.getElem?_cons_succ] at q0 q1
  simp only [Array.getD_eq_getD_getElem?] at hp
  simp [results, h, go_sem, hp, q0, q1]

theorem pgS_of {W : World} {g : Nat} {t : TypeId} {a b c : Value} (h : Blk W g t #[a, b, c]) : Blk W g t #[a, b, c] ∧ W.cell? ⟨g, 0, none⟩ = some a ∧ W.cell? ⟨g, 1, none⟩ = some b ∧ W.cell? ⟨g, 2, none⟩ = some c := ⟨h, h.cell 0, h.cell 1, h.cell 2⟩
/-- A piece of a row. -/
theorem ppiece_run (g off n d lo hi : Nat) (L : List (List UInt8)) (h1 : lo ≤ hi) (h2 : hi ≤ n) (h3 : n ≤ d) :
    ∃ off', (∀ W : World, (Instr.slice 43 (.slice (some ⟨g, off, none⟩) n d) (some (.int .i64 (lo : Int))) (some (.int .i64 (hi : Int))) none).run Tryz.prog W = .ok (.slice (some ⟨g, off', none⟩) (hi - lo) (d - lo)) W) ∧ ∀ W, SR W (some ⟨g, off, none⟩) L → SR W (some ⟨g, off', none⟩) ((L.take hi).drop lo) := by
  obtain ⟨i, hi0, hz0, hz1, hz2⟩ := info_parts infoS
  have hb : ∀ W, (Instr.sliceBounds true n d (some (.int .i64 (lo : Int))) (some (.int .i64 (hi : Int))) none).run Tryz.prog W = .ok (lo, hi, d) W := fun W => by
    have h1 : (0 : Int) ≤ (hi : Int) ∧ (hi : Int) ≤ (d : Int) := by omega
    have h2 : (0 : Int) ≤ (lo : Int) ∧ (lo : Int) ≤ (hi : Int) := by omega
    simp [Instr.sliceBounds, Instr.sliceBound, asIntOf, h1, h2]
    rw [if_pos (show hi ≤ d by omega), if_pos (show lo ≤ hi by omega)]
  by_cases hd : d = lo
  · refine ⟨off, fun W => ?_, fun W _ => ?_⟩
    · simp [Instr.slice, run_underlying (P := Tryz.prog) (w := W) Tryz.underlying43, hb, sizeOf, typeInfo, hi0, hz1]
      exact fun h => absurd hd h
    · rw [List.drop_of_length_le (by rw [List.length_take]; omega)]
      exact SR.nil _ _
  · refine ⟨off + lo, fun W => ?_, fun W h => (h.take hi).drop lo⟩
    simp [Instr.slice, run_underlying (P := Tryz.prog) (w := W) Tryz.underlying43, hb, sizeOf, typeInfo, hi0, hz1, Addr.add]
    rw [if_neg hd]
    split
    · rename_i h0
      rw [h0, Nat.add_zero]
    · rfl

set_option maxRecDepth 100000 in
set_option maxHeartbeats 2000000 in
theorem pProve_bad (key : List UInt8) (A : Option Addr) (n c k : Nat) (Z : List ItL) (w : World) (hA : IR w A Z) (hl : Z.length = n) (hn : n ≤ 65536) (hr : ¬ IRt Z) :
    Calls Tryz.prog 8 #[.string ⟨key.toArray⟩, .slice A n c, vu k] w fun e w' => e = .returned (.tuple #[.agg #[.slice none 0 0, .slice none 0 0], .int .i64 1]) ∧ Below w.heap.size w w' := by
  have hb0 := ba (Below.refl w.heap.size w) (.cells #[.slice none 0 0, .slice none 0 0] 26)
  have K0 := Lib.hid (Blk.new w 26 #[.slice none 0 0, .slice none 0 0])
  have TR := Lib.hid (iright_any A n c Z _ (hA.later hb0) hl hn)
  rw [decide_eq_false hr] at TR
  clear hA hr hl
  go_enter Tryz.func8, Tryz.ntmps8
  go_wp2_with fail
  refine TR.out.mono ?_
  rintro e w1 ⟨rfl, hb1⟩
  have K1 := K0.out.below hb1
  have k0 := K1.cell 0
  have k1 := K1.cell 1
  have f0 := K1.frozen 0
  have f1 := K1.frozen 1
  simp only [List.getElem?_toArray, List.getElem?_cons_zero, List.getElem?_cons_succ] at k0 k1
  have KK := Lib.hid ((K1.set_ 0 (.slice none 0 0)).set_ 1 (.slice none 0 0))
  have BB := Lib.hid (bs (b := w.heap.size) (o := 1) (bs (b := w.heap.size) (o := 0) (bt hb0 hb1) (Nat.le_refl _) (.slice none 0 0)) (Nat.le_refl _) (.slice none 0 0))
  clear hb0 hb1 K1 TR
  go_wp2_with fail
  refine bodyPost_ret (pf_result rfl KK.out) rfl ?_
  exact ⟨rfl, BB.out⟩

set_option maxRecDepth 100000 in
set_option maxHeartbeats 4000000 in
theorem pProve_none (key : List UInt8) (A : Option Addr) (n c k : Nat) (Z : List ItL) (w : World) (hA : IR w A Z) (hl : Z.length = n) (hr : IRt Z) (hk : iatZ Z k = -1) :
    Calls Tryz.prog 8 #[.string ⟨key.toArray⟩, .slice A n c, vu k] w fun e w' => e = .returned (.tuple #[.agg #[.slice none 0 0, .slice none 0 0], .int .i64 3]) ∧ Below w.heap.size w w' := by
  have hn : n ≤ 64 := by have := hr.1; omega
  have hb0 := ba (Below.refl w.heap.size w) (.cells #[.slice none 0 0, .slice none 0 0] 26)
  have K0 := Lib.hid (Blk.new w 26 #[.slice none 0 0, .slice none 0 0])
  have TR := Lib.hid (iright_any A n c Z _ (hA.later hb0) hl (by omega))
  rw [decide_eq_true hr] at TR
  have TN := Lib.hid (fun W (hb : Below w.heap.size w W) => pnums_any A n c Z W (hA.later hb) hl (by omega))
  have TI := Lib.hid (fun g W (hB : Blk W g 23 (((ikeys Z).map vu).toArray)) => pplace_any (some ⟨g, 0, none⟩) n n k Z W (blk_VR hB) hl hr.up (by omega))
  rw [hk] at TI
  clear hA hr hl hk
  go_enter Tryz.func8, Tryz.ntmps8
  go_wp2_with fail
  refine TR.out.mono ?_
  rintro e w1 ⟨rfl, hb1⟩
  have K1 := Lib.hid (K0.out.below hb1)
  have B1 := bt hb0 hb1
  go_wp2_with fail
  refine (TN.out _ B1).mono ?_
  rintro e w2 ⟨g, rfl, hG, hb2⟩
  have K2 := Lib.hid (K1.out.below hb2)
  have B2 := bt B1 hb2
  go_wp2_with fail
  refine (TI.out _ _ hG).mono ?_
  rintro e w3 ⟨rfl, hb3⟩
  have K3 := K2.out.below hb3
  have B3 := bt B2 hb3
  have k0 := K3.cell 0
  have k1 := K3.cell 1
  have f0 := K3.frozen 0
  have f1 := K3.frozen 1
  simp only [List.getElem?_toArray, List.getElem?_cons_zero, List.getElem?_cons_succ] at k0 k1
  have KK := Lib.hid ((K3.set_ 0 (.slice none 0 0)).set_ 1 (.slice none 0 0))
  have BB := Lib.hid (bs (b := w.heap.size) (o := 1) (bs (b := w.heap.size) (o := 0) B3 (Nat.le_refl _) (.slice none 0 0)) (Nat.le_refl _) (.slice none 0 0))
  clear hb0 hb1 hb2 hb3 K3 TR TN TI hG B1 B2 B3 K0 K1 K2
  go_wp2_with fail
  refine bodyPost_ret (pf_result rfl KK.out) rfl ?_
  exact ⟨rfl, BB.out⟩

set_option maxRecDepth 100000 in
set_option maxHeartbeats 16000000 in
theorem pProve_yes (key : List UInt8) (A : Option Addr) (n c k j : Nat) (Z : List ItL) (w : World) (hkey : key.length ≤ 60000) (hA : IR w A Z) (hl : Z.length = n) (hx : ∀ x ∈ Z, x.1 < 18446744073709551616) (hr : IRt Z) (hj : j < n) (hk : iatZ Z k = (j : Int)) (hT : VTab w) :
    Calls Tryz.prog 8 #[.string ⟨key.toArray⟩, .slice A n c, vu k] w fun e w' => ∃ X c1 Y c2, e = .returned (.tuple #[.agg #[.slice X 8 c1, .slice Y 8 c2], .int .i64 0]) ∧ LR w' X (pB key Z (j + 1) 8) ∧ LR w' Y (pF key Z (j + 1) 8) ∧ Below w.heap.size w w' := by
  obtain ⟨li, hli, jz0, jz1, jz2⟩ := info_parts infoSS
  have hn : n ≤ 64 := by have := hr.1; omega
  have hb0 := ba (Below.refl w.heap.size w) (.cells #[.slice none 0 0, .slice none 0 0] 26)
  have K0 := Lib.hid (Blk.new w 26 #[.slice none 0 0, .slice none 0 0])
  have TR := Lib.hid (iright_any A n c Z _ (hA.later hb0) hl (by omega))
  rw [decide_eq_true hr] at TR
  have TN := Lib.hid (fun W (hb : Below w.heap.size w W) => pnums_any A n c Z W (hA.later hb) hl (by omega))
  have TI := Lib.hid (fun g W (hB : Blk W g 23 (((ikeys Z).map vu).toArray)) => pplace_any (some ⟨g, 0, none⟩) n n k Z W (blk_VR hB) hl hr.up (by omega))
  rw [hk] at TI
  have HKX : ∀ x ∈ ikeys Z, x < 18446744073709551616 := fun x hx2 => by
    simp only [ikeys, List.mem_map] at hx2
    obtain ⟨y, hy, rfl⟩ := hx2
    exact hx y hy
  have TH := Lib.hid (fun g W (hb : Below w.heap.size w W) (hB : Blk W g 23 (((ikeys Z).map vu).toArray)) => vheights_any key (some ⟨g, 0, none⟩) n n (ikeys Z) W hkey (blk_VR hB) (by rw [ikeys_len, hl]) HKX (by omega) (hT.later hb))
  have TW := Lib.hid (fun (lev : Nat) W (hlev : lev < 8) (hb : Below w.heap.size w W) => yRow_room key A n c lev Z W (by omega) hkey (hA.later hb) hl hx hr (hT.later hb))
  have TG := Lib.hid (fun (lev g : Nat) W (hlev : lev < 8) (hB : Blk W g 3 (((hsL key (ikeys Z)).map vi).toArray)) => pgroup_any (some ⟨g, 0, none⟩) n n j lev (hsL key (ikeys Z)) W (blk_VR hB) (by rw [hsL_len, ikeys_len, hl]) (Nat.le_refl _) (by omega) hj hlev)
  have HP : Hid (∀ lev f p e, lev < 8 → PG (yhts (9 :: hsL key (ikeys Z)) lev) lev f p e → p + 1 = (yhi (9 :: hsL key (ikeys Z)) lev (j + 2)).length →
      f ≤ p ∧ p < e ∧ e ≤ (yrowL key Z lev).length ∧ ((yrowL key Z lev).take p).drop f = pbefL key Z (j + 1) lev ∧ ((yrowL key Z lev).take e).drop (p + 1) = paftL key Z (j + 1) lev) := Lib.hid fun lev f p e hlev hg hp => by
    have hh : (9 :: hsL key (ikeys Z)) = yht key Z := rfl
    rw [hh] at hg hp
    obtain ⟨r1, r2, _⟩ := pg_pieces (H := yht key Z) (q := j + 1) (by rw [yht_zero]; omega) (by rw [yht_len]; omega) hp hg
    have h3 := hg.en
    rw [yhts_len] at h3
    refine ⟨hg.fp, hg.pe, by rw [yrowL, yrow_len]; exact h3, ?_, ?_⟩
    · rw [pbefL, ← r1, yrowL, yrow, List.map_drop, List.map_take]
    · rw [paftL, ← r2, yrowL, yrow, List.map_drop, List.map_take]
  have HRL : Hid (∀ lev, (yrowL key Z lev).length ≤ 65) := Lib.hid fun lev => by have := yrowL_le key Z lev; omega
  have HGM := Lib.hid (pB_more key Z (j + 1))
  have HFM := Lib.hid (pF_more key Z (j + 1))
  have HG0 : Hid (pB key Z (j + 1) 0 = [] ∧ pF key Z (j + 1) 0 = [] ∧ (pB key Z (j + 1) 8).length = 8 ∧ (pF key Z (j + 1) 8).length = 8) := Lib.hid ⟨rfl, rfl, pB_len .., pF_len ..⟩
  clear hA hr hl hk hx HKX hT hkey
  generalize pB key Z (j + 1) = GB at *
  generalize pF key Z (j + 1) = GF at *
  generalize pbefL key Z (j + 1) = PB at *
  generalize paftL key Z (j + 1) = PA at *
  generalize yrowL key Z = TT at *
  generalize hsL key (ikeys Z) = HH at *
  go_enter Tryz.func8, Tryz.ntmps8
  go_wp2_with fail
  refine TR.out.mono ?_
  rintro e w1 ⟨rfl, hb1⟩
  have K1 := Lib.hid (K0.out.below hb1)
  have B1 := bt hb0 hb1
  go_wp2_with fail
  refine (TN.out _ B1).mono ?_
  rintro e w2 ⟨g, rfl, hG, hb2⟩
  have K2 := Lib.hid (K1.out.below hb2)
  have B2 := bt B1 hb2
  go_wp2_with fail
  refine (TI.out _ _ hG).mono ?_
  rintro e w3 ⟨rfl, hb3⟩
  have K3 := Lib.hid (K2.out.below hb3)
  have B3 := bt B2 hb3
  have hG3 := hG.below hb3
  have i0 : ¬ (j : Int) < 0 := by omega
  clear hG hb1 hb2 hb3 hb0 TR TN TI K0 K1 K2 B1 B2
  go_wp2_with fail
  refine (TH.out _ _ B3 hG3).mono ?_
  rintro e w4 ⟨gh, rfl, hH, hb4⟩
  have hbp := ba (Below.refl w4.heap.size w4) (.cells #[.slice none 0 0, .slice none 0 0] 26)
  have K5 := Lib.hid ((K3.out.below hb4).below hbp)
  have H5 := Lib.hid (hH.below hbp)
  have B5 := Lib.hid (bt (bt B3 hb4) hbp)
  have HLH : Hid (gh < w4.heap.size ∧ w.heap.size < w4.heap.size) := Lib.hid ⟨hH.lt, (K3.out.below hb4).lt⟩
  have Q5 := Lib.hid (PQ.start (Blk.new w4 26 #[.slice none 0 0, .slice none 0 0]) (base := w4.heap.size + 1) (by omega) (by simp))
  clear hG3 hH hb4 hbp B3 K3 TH
  go_wp2_with fail
  generalize w4.alloc (.cells #[.slice none 0 0, .slice none 0 0] 26) = w5 at K5 H5 B5 Q5 ⊢
  generalize w4.heap.size = bp at *
  go_loopw [31] (fun iv wr => ∃ (lev : Nat) (X Y : Option Addr) (c1 c2 : Nat) (Vs Us : List Value), lev ≤ 8 ∧ iv = .int .i64 (lev : Int) ∧ Hid (PQ wr (bp + 1) bp X lev c1 Vs Y lev c2 Us (GB lev) (GF lev)) ∧ Hid (Blk wr w.heap.size 26 #[.slice none 0 0, .slice none 0 0]) ∧ Hid (Blk wr gh 3 ((HH.map vi).toArray)) ∧ Hid (Below w.heap.size w wr)) (fun i _ => 8 - (intOf i).toNat)
  case atStart => exact ⟨0, none, none, 0, 0, [], [], Nat.zero_le _, rfl, by rw [HG0.out.1, HG0.out.2.1]; exact Q5, K5, H5, B5⟩
  case round =>
    clear K5 H5 B5 Q5
    obtain ⟨lev, X, Y, c1, c2, Vs, Us, hlev, rfl, HQ, HK, HH1, HB⟩ := hrel
    by_cases hlt : lev < 8
    · have i1 : (lev : Int) < 8 := by omega
      go_wp2_with fail
      refine (TW.out lev wr hlt HB.out).mono ?_
      rintro e w6 ⟨R, d, rfl, hd, hfr, hS, hb6⟩
      have HXL : Hid (∀ k, (Value.slice X lev c1).ownBlock = some k → k < wr.heap.size) := Lib.hid fun k hk => (HQ.out.row0.lt k hk).2
      have HYL : Hid (∀ k, (Value.slice Y lev c2).ownBlock = some k → k < wr.heap.size) := Lib.hid fun k hk => (HQ.out.row1.lt k hk).2
      have HBP : Hid (bp < wr.heap.size) := Lib.hid HQ.out.blk.lt
      have HB6 := Lib.hid (bt HB.out hb6)
      have HQ6 := Lib.hid (HQ.out.below hb6)
      have HK6 := Lib.hid (HK.out.below hb6)
      have HH6 := Lib.hid (HH1.out.below hb6)
      have HS6 := Lib.hid hS
      clear hS hb6 HB HQ HK HH1
      go_wp2_with fail
      refine (TG.out lev gh w6 hlt HH6.out).mono ?_
      rintro e w7 ⟨f, p, q, rfl, hg, hp, hb7⟩
      obtain ⟨h1, h2, h3, h4, h5⟩ := HP.out lev f p q hlt hg hp
      have hb8 := ba hb7 (.cells #[vi f, vi p, vi q] 64)
      have KG := Blk.new w7 64 #[vi f, vi p, vi q]
      have HB8 := Lib.hid (bt HB6.out hb8)
      have HQ8 := Lib.hid (HQ6.out.below hb8)
      have HK8 := Lib.hid (HK6.out.below hb8)
      have HH8 := Lib.hid (HH6.out.below hb8)
      have HS8 := Lib.hid (HS6.out.later hb8)
      have HBG : Hid (bp < w7.heap.size) := Lib.hid (HQ6.out.below hb7).blk.lt
      obtain ⟨gr, orr, rfl, _⟩ := HS8.out 0 (by omega)
      have HFR : Hid (wr.heap.size ≤ gr) := Lib.hid (hfr _ rfl)
      have HGR : Hid (gr < (w7.alloc (.cells #[vi f, vi p, vi q] 64)).heap.size) := Lib.hid (by
        obtain ⟨g9, o9, e9, c9⟩ := HS8.out 0 (by omega)
        cases e9
        exact World.block_lt_of_cell? _ _ c9)
      obtain ⟨o1, hs1, hS1⟩ := ppiece_run gr orr (TT lev).length d f p (TT lev) h1 (by omega) hd
      obtain ⟨o2, hs2, hS2⟩ := ppiece_run gr orr (TT lev).length d (p + 1) q (TT lev) (by omega) h3 hd
      rw [show (((p + 1 : Nat)) : Int) = (p : Int) + 1 by omega] at hs2
      have hPB : (PB lev).length = p - f := by rw [← h4, List.length_drop, List.length_take]; omega
      have hPA : (PA lev).length = q - (p + 1) := by rw [← h5, List.length_drop, List.length_take]; omega
      rw [h4] at hS1
      rw [h5] at hS2
      have HT1 := Lib.hid (hS1 _ HS8.out)
      have HT2 := Lib.hid (hS2 _ HS8.out)
      have hl65 : (TT lev).length ≤ 65 := HRL.out lev
      have HGMl := Lib.hid (HGM.out lev)
      have HFMl := Lib.hid (HFM.out lev)
      clear hb7 hb8 HB6 HQ6 HK6 HH6 HS6 hg hp hS1 hS2 h4 h5 hfr HS8
      go_wp2_with fail
      generalize w7.alloc (.cells #[vi f, vi p, vi q] 64) = w8 at KG HB8 HQ8 HK8 HH8 HT1 HT2 HGR ⊢
      generalize w7.heap.size = bg at KG HBG ⊢
      generalize (TT lev).length = nr at *
      generalize PB lev = P1 at *
      generalize PA lev = P2 at *
      have hwp : IntKind.i64.wrap ((p : Int) + 1) = (p : Int) + 1 := by rw [IntKind.wrap_i64]; omega
      have hS0 := pgS_of KG
      have c08 := HQ8.out.blk.cell 0
      simp only [List.getElem?_toArray, List.getElem?_cons_zero] at c08
      -- region 14
      refine wp_region_held_drew (S := fun W => Blk W bg 64 #[vi f, vi p, vi q] ∧ W.cell? ⟨bg, 0, none⟩ = some (vi f) ∧ W.cell? ⟨bg, 1, none⟩ = some (vi p) ∧ W.cell? ⟨bg, 2, none⟩ = some (vi q)) (by kernel_rfl) (pgS_of KG) (fun hHeld => ?_)
      refine wpAnyH_take (i := 0) (oi := ⟨some 45, _, _, _, _, _⟩) (v := ?_) rfl (by kernel_rfl) (by kernel_rfl) (by kernel_rfl) (fun _ _ _ h => h) (Or.inl ⟨by rfl, ?_⟩) (by assumption) ?_
      rotate_left
      · (intro w9 hSw; (try dsimp only at hSw); go_simp; try with_reducible rfl)
      try simp only [Act.put, List.setIfInBounds_toArray, List.set_cons_zero, List.set_cons_succ]
      refine wpAnyH_take (i := 2) (oi := ⟨some 47, _, _, _, _, _⟩) (v := ?_) rfl (by kernel_rfl) (by kernel_rfl) (by kernel_rfl) (fun _ _ _ h => h) (Or.inl ⟨by rfl, ?_⟩) (by assumption) ?_
      rotate_left
      · (intro w9 hSw; (try dsimp only at hSw); go_simp; try with_reducible rfl)
      try simp only [Act.put, List.setIfInBounds_toArray, List.set_cons_zero, List.set_cons_succ]
      refine wpAnyH_take (i := 3) (oi := ⟨some 48, _, _, _, _, _⟩) (v := ?_) rfl (by kernel_rfl) (by kernel_rfl) (by kernel_rfl) (fun _ _ _ h => h) (Or.inl ⟨by rfl, ?_⟩) (by assumption) ?_
      rotate_left
      · (intro w9 hSw; (try dsimp only at hSw); go_simp; try with_reducible rfl)
      try simp only [Act.put, List.setIfInBounds_toArray, List.set_cons_zero, List.set_cons_succ]
      refine wpAnyH_take (i := 4) (oi := ⟨some 49, _, _, _, _, _⟩) (v := ?_) rfl (by kernel_rfl) (by kernel_rfl) (by kernel_rfl) (fun _ _ _ h => h) (Or.inl ⟨by rfl, ?_⟩) (by assumption) ?_
      rotate_left
      · (intro w9 hSw; (try dsimp only at hSw); go_simp; try with_reducible rfl)
      try simp only [Act.put, List.setIfInBounds_toArray, List.set_cons_zero, List.set_cons_succ]
      refine wpAnyH_take (i := 5) (oi := ⟨some 50, _, _, _, _, _⟩) (v := ?_) rfl (by kernel_rfl) (by kernel_rfl) (by kernel_rfl) (fun _ _ _ h => h) (Or.inl ⟨by rfl, ?_⟩) (by assumption) ?_
      rotate_left
      · (intro w9 hSw; (try dsimp only at hSw); go_simp; try with_reducible rfl)
      try simp only [Act.put, List.setIfInBounds_toArray, List.set_cons_zero, List.set_cons_succ]
      refine wpAnyH_take (i := 6) (oi := ⟨some 51, _, _, _, _, _⟩) (v := ?_) rfl (by kernel_rfl) (by kernel_rfl) (by kernel_rfl) (fun _ _ _ h => h) (Or.inl ⟨by rfl, ?_⟩) (by assumption) ?_
      rotate_left
      · (intro w9 hSw; (try dsimp only at hSw); go_simp; try with_reducible rfl)
      try simp only [Act.put, List.setIfInBounds_toArray, List.set_cons_zero, List.set_cons_succ]
      refine wpAnyH_take (i := 7) (oi := ⟨some 52, _, _, _, _, _⟩) (v := .slice (some ⟨gr, o1, none⟩) (p - f) (d - f)) rfl (by kernel_rfl) (by kernel_rfl) (by kernel_rfl) (fun _ _ _ h => h) (Or.inl ⟨by rfl, ?_⟩) (by assumption) ?_
      · (intro w9 hSw; (try dsimp only at hSw); go_simp; try with_reducible rfl)
      try simp only [Act.put, List.setIfInBounds_toArray, List.set_cons_zero, List.set_cons_succ]
      refine wpAnyH_ready (rs := [1, 8]) (by kernel_rfl) (by simp) ?_
      refine AllReadyH.cons (o := ⟨some 46, _, _, _, _, _⟩) rfl (fun K9 hK9 => ?_) ?_
      · skip
        go_simp
        refine hK9.out _ _ ?_ (fun hHeld => ?_)
        · first | exact hS0 | exact hS1 | exact hS2
        clear hK9 K9
        try simp only [Act.put, List.setIfInBounds_toArray, List.set_cons_zero, List.set_cons_succ]
        refine wpAnyH_ready (rs := [8]) (by kernel_rfl) (by simp) ?_
        refine AllReadyH.cons (o := ⟨some 53, _, _, _, _, _⟩) rfl (fun K9 hK9 => ?_) AllReadyH.nil
        go_simp; go_at_call 31
        refine (qclone_any (some ⟨gr, o1, none⟩) (d - f) (p - f) P1 w8.drew HT1.out hPB (fun h => by cases h) (by omega)).mono ?_
        rintro e wa ⟨A', c', rfl, hOv, hba⟩
        have hKa := (show Blk w8.drew bg 64 #[vi f, vi p, vi q] from KG).below hba
        have hS1 := pgS_of hKa
        have hQa := (show PQ w8.drew (bp + 1) bp X lev c1 Vs Y lev c2 Us (GB lev) (GF lev) from HQ8.out.drew).below hba
        have hOw : wa.ownsRow (bp + 1) 9 1 (.slice A' (p - f) c') P1.length (P1.map sv) := by rw [hPB]; exact yown_base hOv (show bp + 1 ≤ w8.heap.size from HQ8.out.bs)
        have hBa := bt (show Below w.heap.size w w8.drew from HB8.out.drew) hba
        have c1a := hQa.blk.cell 0
        have e1 : gr < wa.heap.size := Nat.lt_of_lt_of_le HGR.out hba.size
        have e2 : wa.heap[gr]? = w8.heap[gr]? := hba.block gr HGR.out
        refine hK9.out _ _ ?_ (fun hHeld => ?_)
        · exact hS1
        clear hK9 K9
        try simp only [Act.put, List.setIfInBounds_toArray, List.set_cons_zero, List.set_cons_succ]
        refine wpAnyH_ready (rs := [9]) (by kernel_rfl) (by simp) ?_
        refine AllReadyH.cons (o := ⟨some 54, _, _, _, _, _⟩) rfl (fun K9 hK9 => ?_) AllReadyH.nil
        go_simp
        have hS2 := pgS_of (hKa.alloc (.cells #[.slice A' (p - f) c'] 43))
        have c2a := (hQa.blk.alloc (.cells #[.slice A' (p - f) c'] 43)).cell 0
        have O2 := own_later hQa.row0 (ba (Below.refl wa.heap.size wa) (.cells #[.slice A' (p - f) c'] 43))
        refine hK9.out _ _ ?_ (fun hHeld => ?_)
        · exact hS2
        clear hK9 K9
        try simp only [Act.put, List.setIfInBounds_toArray, List.set_cons_zero, List.set_cons_succ]
        refine wpAnyH_ready (rs := [10]) (by kernel_rfl) (by simp) ?_
        refine AllReadyH.cons (o := ⟨some 55, _, _, _, _, _⟩) rfl (fun K9 hK9 => ?_) AllReadyH.nil
        refine step_append_lies _ (by rfl) _ _ _ (by rfl) (bp + 1) 43 li (.slice none 0 0) 1 24 Tryz.underlying24 hli jz0 jz1 jz2 rfl (by omega) (.slice X lev c1) lev Vs (by rfl) O2 ⟨wa.heap.size, 0, none⟩ 1 1 [.slice A' (p - f) c'] (by rfl) rfl (World.news_of_block (heap_alloc_new wa (.cells #[.slice A' (p - f) c'] 43))) (by simp [Value.oneCell']) (by omega) (by unfold maxLen; omega) (by omega) (Nat.le_trans hQa.bs (ba (Below.refl wa.heap.size wa) (.cells #[.slice A' (p - f) c'] 43)).size) (wa.heap.size + 1) (by simp) ?_
        intro gg cap w9 hown9 hgrow hat hlt9
        have hne : (Value.slice X lev c1).ownBlock ≠ some bg := vown_ne hQa.row0 hKa (by decide)
        have hK9 : Blk w9 bg 64 #[vi f, vi p, vi q] := (hKa.alloc (.cells #[.slice A' (p - f) c'] 43)).grown hgrow (fun e => hne e.symm)
        have hS3 := pgS_of hK9
        have hB9 : Blk w9 bp 26 #[.slice X lev c1, .slice Y lev c2] := (hQa.blk.alloc (.cells #[.slice A' (p - f) c'] 43)).grown hgrow (fun e => by have := (hQa.row0.lt bp e.symm).1; omega)
        have c3a := hB9.cell 0
        have f3a := hB9.frozen 0
        obtain ⟨hQN, hEN⟩ := hQa.put0 hOw O2 hown9 hgrow hat
        have hKN := (hEN bg hKa.lt (by have := HBG.out; omega) hne).trans hKa
        have hS4 := pgS_of hKN
        have hHN := Lib.hid ((hEN gh (((show Blk w8 gh 3 ((HH.map vi).toArray) from HH8.out).drew.below hba).lt) (by have := HLH.out.1; omega) (fun e => by have := (hQa.row0.lt gh e).1; have := HLH.out.1; omega)).trans ((show Blk w8 gh 3 ((HH.map vi).toArray) from HH8.out).drew.below hba))
        have hRN := Lib.hid ((hEN w.heap.size (((show Blk w8 w.heap.size 26 #[.slice none 0 0, .slice none 0 0] from HK8.out).drew.below hba).lt) (by have := HLH.out.2; omega) (fun e => by have := (hQa.row0.lt w.heap.size e).1; have := HLH.out.2; omega)).trans ((show Blk w8 w.heap.size 26 #[.slice none 0 0, .slice none 0 0] from HK8.out).drew.below hba))
        have hGN : (w9.setCell ⟨bp, 0, none⟩ (.slice (some ⟨gg, 0, none⟩) (lev + 1) cap)).heap[gr]? = wa.heap[gr]? := hEN gr e1 (by have := HBP.out; have := HFR.out; omega) (fun e => by have := HXL.out gr e; have := HFR.out; omega)
        have hGL := Lib.hid (show gr < (w9.setCell ⟨bp, 0, none⟩ (.slice (some ⟨gg, 0, none⟩) (lev + 1) cap)).heap.size by have h7 := hgrow.size; simp at h7 ⊢; omega)
        have hBN := Lib.hid (bs (b := bp) (o := 0) ((ba hBa (.cells #[.slice A' (p - f) c'] 43)).grown hgrow (ba hBa (.cells #[.slice A' (p - f) c'] 43)).size (fun k e => by have := (hQa.row0.lt k e).1; have := HLH.out.2; omega)) (by have := HLH.out.2; omega) (.slice (some ⟨gg, 0, none⟩) (lev + 1) cap))
        have hTN := Lib.hid (HT2.out.kp (w' := w9.setCell ⟨bp, 0, none⟩ (.slice (some ⟨gg, 0, none⟩) (lev + 1) cap)) (fun a e => by cases e; exact hGN.trans e2))
        clear hown9 hgrow hat hlt9 hK9 hB9 hEN hGN hOw hOv O2
        refine hK9.out _ _ ?_ (fun hHeld => ?_)
        · exact hS3
        clear hK9 K9
        try simp only [Act.put, List.setIfInBounds_toArray, List.set_cons_zero, List.set_cons_succ]
        refine wpAnyH_take (i := 11) (oi := ⟨some 56, _, _, _, _, _⟩) (v := ?_) rfl (by kernel_rfl) (by kernel_rfl) (by kernel_rfl) (fun _ _ _ h => h) (Or.inl ⟨by rfl, ?_⟩) (by assumption) ?_
        rotate_left
        · (intro w9 hSw; (try dsimp only at hSw); go_simp; try with_reducible rfl)
        try simp only [Act.put, List.setIfInBounds_toArray, List.set_cons_zero, List.set_cons_succ]
        refine wpAnyH_ready (rs := [12]) (by kernel_rfl) (by simp) ?_
        refine AllReadyH.cons (o := ⟨none, _, _, _, _, _⟩) rfl (fun K9 hK9 => ?_) AllReadyH.nil
        go_simp
        refine hK9.out _ _ ?_ (fun hHeld => ?_)
        · exact hS4
        clear hK9 K9
        try simp only [Act.put]
        refine wpAnyH_done (by kernel_rfl) ?_ _
        have HQ9 : Hid (PQ (w9.setCell ⟨bp, 0, none⟩ (.slice (some ⟨gg, 0, none⟩) (lev + 1) cap)) (bp + 1) bp (some ⟨gg, 0, none⟩) (lev + 1) cap (Vs ++ [.slice A' (p - f) c']) Y lev c2 Us (GB (lev + 1)) (GF lev)) := Lib.hid (by rw [HGMl.out]; exact hQN)
        clear hQN hS1 hS2 hS3 hS4 hQa hKa hBa hba c1a c2a c3a f3a e1 e2 hne
        go_wp2_with fail
        generalize (w9.setCell ⟨bp, 0, none⟩ (.slice (some ⟨gg, 0, none⟩) (lev + 1) cap)) = w10 at hKN hRN hHN hBN hTN hGL HQ9 ⊢
        have c08 := HQ9.out.blk.cell 1
        simp only [List.getElem?_toArray, List.getElem?_cons_zero, List.getElem?_cons_succ] at c08
        have hS0 := pgS_of hKN
        refine wp_region_held_drew (S := fun W => Blk W bg 64 #[vi f, vi p, vi q] ∧ W.cell? ⟨bg, 0, none⟩ = some (vi f) ∧ W.cell? ⟨bg, 1, none⟩ = some (vi p) ∧ W.cell? ⟨bg, 2, none⟩ = some (vi q)) (by kernel_rfl) (pgS_of hKN) (fun hHeld => ?_)
        refine wpAnyH_take (i := 0) (oi := ⟨some 57, _, _, _, _, _⟩) (v := ?_) rfl (by kernel_rfl) (by kernel_rfl) (by kernel_rfl) (fun _ _ _ h => h) (Or.inl ⟨by rfl, ?_⟩) (by assumption) ?_
        rotate_left
        · (intro w9 hSw; (try dsimp only at hSw); go_simp; try with_reducible rfl)
        try simp only [Act.put, List.setIfInBounds_toArray, List.set_cons_zero, List.set_cons_succ]
        refine wpAnyH_take (i := 2) (oi := ⟨some 59, _, _, _, _, _⟩) (v := ?_) rfl (by kernel_rfl) (by kernel_rfl) (by kernel_rfl) (fun _ _ _ h => h) (Or.inl ⟨by rfl, ?_⟩) (by assumption) ?_
        rotate_left
        · (intro w9 hSw; (try dsimp only at hSw); go_simp; try with_reducible rfl)
        try simp only [Act.put, List.setIfInBounds_toArray, List.set_cons_zero, List.set_cons_succ]
        refine wpAnyH_take (i := 3) (oi := ⟨some 60, _, _, _, _, _⟩) (v := ?_) rfl (by kernel_rfl) (by kernel_rfl) (by kernel_rfl) (fun _ _ _ h => h) (Or.inl ⟨by rfl, ?_⟩) (by assumption) ?_
        rotate_left
        · (intro w9 hSw; (try dsimp only at hSw); go_simp; try with_reducible rfl)
        try simp only [Act.put, List.setIfInBounds_toArray, List.set_cons_zero, List.set_cons_succ]
        refine wpAnyH_take (i := 4) (oi := ⟨some 61, _, _, _, _, _⟩) (v := ?_) rfl (by kernel_rfl) (by kernel_rfl) (by kernel_rfl) (fun _ _ _ h => h) (Or.inl ⟨by rfl, ?_⟩) (by assumption) ?_
        rotate_left
        · (intro w9 hSw; (try dsimp only at hSw); go_simp; try with_reducible rfl)
        try simp only [Act.put, List.setIfInBounds_toArray, List.set_cons_zero, List.set_cons_succ]
        refine wpAnyH_take (i := 5) (oi := ⟨some 62, _, _, _, _, _⟩) (v := .int .i64 ((p : Int) + 1)) rfl (by kernel_rfl) (by kernel_rfl) (by kernel_rfl) (fun _ _ _ h => h) (Or.inl ⟨by rfl, ?_⟩) (by assumption) ?_
        · (intro w9 hSw; (try dsimp only at hSw); go_simp; try with_reducible rfl)
        try simp only [Act.put, List.setIfInBounds_toArray, List.set_cons_zero, List.set_cons_succ]
        refine wpAnyH_take (i := 6) (oi := ⟨some 63, _, _, _, _, _⟩) (v := ?_) rfl (by kernel_rfl) (by kernel_rfl) (by kernel_rfl) (fun _ _ _ h => h) (Or.inl ⟨by rfl, ?_⟩) (by assumption) ?_
        rotate_left
        · (intro w9 hSw; (try dsimp only at hSw); go_simp; try with_reducible rfl)
        try simp only [Act.put, List.setIfInBounds_toArray, List.set_cons_zero, List.set_cons_succ]
        refine wpAnyH_take (i := 7) (oi := ⟨some 64, _, _, _, _, _⟩) (v := ?_) rfl (by kernel_rfl) (by kernel_rfl) (by kernel_rfl) (fun _ _ _ h => h) (Or.inl ⟨by rfl, ?_⟩) (by assumption) ?_
        rotate_left
        · (intro w9 hSw; (try dsimp only at hSw); go_simp; try with_reducible rfl)
        try simp only [Act.put, List.setIfInBounds_toArray, List.set_cons_zero, List.set_cons_succ]
        refine wpAnyH_take (i := 8) (oi := ⟨some 65, _, _, _, _, _⟩) (v := .slice (some ⟨gr, o2, none⟩) (q - (p + 1)) (d - (p + 1))) rfl (by kernel_rfl) (by kernel_rfl) (by kernel_rfl) (fun _ _ _ h => h) (Or.inl ⟨by rfl, ?_⟩) (by assumption) ?_
        · (intro w9 hSw; (try dsimp only at hSw); go_simp; try with_reducible rfl)
        try simp only [Act.put, List.setIfInBounds_toArray, List.set_cons_zero, List.set_cons_succ]
        refine wpAnyH_ready (rs := [1, 9]) (by kernel_rfl) (by simp) ?_
        refine AllReadyH.cons (o := ⟨some 58, _, _, _, _, _⟩) rfl (fun K9 hK9 => ?_) ?_
        · skip
          go_simp
          refine hK9.out _ _ ?_ (fun hHeld => ?_)
          · first | exact hS0 | exact hS1 | exact hS2
          clear hK9 K9
          try simp only [Act.put, List.setIfInBounds_toArray, List.set_cons_zero, List.set_cons_succ]
          refine wpAnyH_ready (rs := [9]) (by kernel_rfl) (by simp) ?_
          refine AllReadyH.cons (o := ⟨some 66, _, _, _, _, _⟩) rfl (fun K9 hK9 => ?_) AllReadyH.nil
          go_simp; go_at_call 31
          refine (qclone_any (some ⟨gr, o2, none⟩) (d - (p + 1)) (q - (p + 1)) P2 w10.drew hTN.out hPA (fun h => by cases h) (by omega)).mono ?_
          rintro e wb ⟨B', d', rfl, hOv, hba⟩
          have hKa := (show Blk w10.drew bg 64 #[vi f, vi p, vi q] from hKN).below hba
          have hS1 := pgS_of hKa
          have hQa := (show PQ w10.drew (bp + 1) bp (some ⟨gg, 0, none⟩) (lev + 1) cap (Vs ++ [.slice A' (p - f) c']) Y lev c2 Us (GB (lev + 1)) (GF lev) from HQ9.out.drew).below hba
          have hOw : wb.ownsRow (bp + 1) 9 1 (.slice B' (q - (p + 1)) d') P2.length (P2.map sv) := by rw [hPA]; exact yown_base hOv (show bp + 1 ≤ w10.heap.size from HQ9.out.bs)
          have hBa := bt (show Below w.heap.size w w10.drew from hBN.out.drew) hba
          have c1a := hQa.blk.cell 1
          have e1 : gr < wb.heap.size := Nat.lt_of_lt_of_le hGL.out hba.size
          have e2 : wb.heap[gr]? = w10.heap[gr]? := hba.block gr hGL.out
          refine hK9.out _ _ ?_ (fun hHeld => ?_)
          · exact hS1
          clear hK9 K9
          try simp only [Act.put, List.setIfInBounds_toArray, List.set_cons_zero, List.set_cons_succ]
          refine wpAnyH_ready (rs := [10]) (by kernel_rfl) (by simp) ?_
          refine AllReadyH.cons (o := ⟨some 67, _, _, _, _, _⟩) rfl (fun K9 hK9 => ?_) AllReadyH.nil
          go_simp
          have hS2 := pgS_of (hKa.alloc (.cells #[.slice B' (q - (p + 1)) d'] 43))
          have c2a := (hQa.blk.alloc (.cells #[.slice B' (q - (p + 1)) d'] 43)).cell 1
          have O2 := own_later hQa.row1 (ba (Below.refl wb.heap.size wb) (.cells #[.slice B' (q - (p + 1)) d'] 43))
          refine hK9.out _ _ ?_ (fun hHeld => ?_)
          · exact hS2
          clear hK9 K9
          try simp only [Act.put, List.setIfInBounds_toArray, List.set_cons_zero, List.set_cons_succ]
          refine wpAnyH_ready (rs := [11]) (by kernel_rfl) (by simp) ?_
          refine AllReadyH.cons (o := ⟨some 68, _, _, _, _, _⟩) rfl (fun K9 hK9 => ?_) AllReadyH.nil
          refine step_append_lies _ (by rfl) _ _ _ (by rfl) (bp + 1) 43 li (.slice none 0 0) 1 24 Tryz.underlying24 hli jz0 jz1 jz2 rfl (by omega) (.slice Y lev c2) lev Us (by rfl) O2 ⟨wb.heap.size, 0, none⟩ 1 1 [.slice B' (q - (p + 1)) d'] (by rfl) rfl (World.news_of_block (heap_alloc_new wb (.cells #[.slice B' (q - (p + 1)) d'] 43))) (by simp [Value.oneCell']) (by omega) (by unfold maxLen; omega) (by omega) (Nat.le_trans hQa.bs (ba (Below.refl wb.heap.size wb) (.cells #[.slice B' (q - (p + 1)) d'] 43)).size) (wb.heap.size + 1) (by simp) ?_
          intro g2 cap2 w11 hown9 hgrow hat hlt9
          have hne : (Value.slice Y lev c2).ownBlock ≠ some bg := vown_ne hQa.row1 hKa (by decide)
          have hK9 : Blk w11 bg 64 #[vi f, vi p, vi q] := (hKa.alloc (.cells #[.slice B' (q - (p + 1)) d'] 43)).grown hgrow (fun e => hne e.symm)
          have hS3 := pgS_of hK9
          have hB9 : Blk w11 bp 26 #[.slice (some ⟨gg, 0, none⟩) (lev + 1) cap, .slice Y lev c2] := (hQa.blk.alloc (.cells #[.slice B' (q - (p + 1)) d'] 43)).grown hgrow (fun e => by have := (hQa.row1.lt bp e.symm).1; omega)
          have c3a := hB9.cell 1
          have f3a := hB9.frozen 1
          obtain ⟨hQN, hEN⟩ := hQa.put1 hOw O2 hown9 hgrow hat
          have hKN2 := (hEN bg hKa.lt (by have := HBG.out; omega) hne).trans hKa
          have hS4 := pgS_of hKN2
          have hHN2 := Lib.hid ((hEN gh (((show Blk w10 gh 3 ((HH.map vi).toArray) from hHN.out).drew.below hba).lt) (by have := HLH.out.1; omega) (fun e => by have := (hQa.row1.lt gh e).1; have := HLH.out.1; omega)).trans ((show Blk w10 gh 3 ((HH.map vi).toArray) from hHN.out).drew.below hba))
          have hRN2 := Lib.hid ((hEN w.heap.size (((show Blk w10 w.heap.size 26 #[.slice none 0 0, .slice none 0 0] from hRN.out).drew.below hba).lt) (by have := HLH.out.2; omega) (fun e => by have := (hQa.row1.lt w.heap.size e).1; have := HLH.out.2; omega)).trans ((show Blk w10 w.heap.size 26 #[.slice none 0 0, .slice none 0 0] from hRN.out).drew.below hba))
          have hGN : (w11.setCell ⟨bp, 1, none⟩ (.slice (some ⟨g2, 0, none⟩) (lev + 1) cap2)).heap[gr]? = wb.heap[gr]? := hEN gr e1 (by have := HBP.out; have := HFR.out; omega) (fun e => by have := HYL.out gr e; have := HFR.out; omega)
          have hGL2 := Lib.hid (show gr < (w11.setCell ⟨bp, 1, none⟩ (.slice (some ⟨g2, 0, none⟩) (lev + 1) cap2)).heap.size by have h7 := hgrow.size; simp at h7 ⊢; omega)
          have hBN2 := Lib.hid (bs (b := bp) (o := 1) ((ba hBa (.cells #[.slice B' (q - (p + 1)) d'] 43)).grown hgrow (ba hBa (.cells #[.slice B' (q - (p + 1)) d'] 43)).size (fun k e => by have := (hQa.row1.lt k e).1; have := HLH.out.2; omega)) (by have := HLH.out.2; omega) (.slice (some ⟨g2, 0, none⟩) (lev + 1) cap2))
          clear hown9 hgrow hat hlt9 hK9 hB9 hEN hGN hOw hOv O2
          refine hK9.out _ _ ?_ (fun hHeld => ?_)
          · exact hS3
          clear hK9 K9
          try simp only [Act.put, List.setIfInBounds_toArray, List.set_cons_zero, List.set_cons_succ]
          refine wpAnyH_take (i := 12) (oi := ⟨some 69, _, _, _, _, _⟩) (v := ?_) rfl (by kernel_rfl) (by kernel_rfl) (by kernel_rfl) (fun _ _ _ h => h) (Or.inl ⟨by rfl, ?_⟩) (by assumption) ?_
          rotate_left
          · (intro w9 hSw; (try dsimp only at hSw); go_simp; try with_reducible rfl)
          try simp only [Act.put, List.setIfInBounds_toArray, List.set_cons_zero, List.set_cons_succ]
          refine wpAnyH_ready (rs := [13]) (by kernel_rfl) (by simp) ?_
          refine AllReadyH.cons (o := ⟨none, _, _, _, _, _⟩) rfl (fun K9 hK9 => ?_) AllReadyH.nil
          go_simp
          refine hK9.out _ _ ?_ (fun hHeld => ?_)
          · exact hS4
          clear hK9 K9
          try simp only [Act.put]
          refine wpAnyH_done (by kernel_rfl) ?_ _
          have HQN : Hid (PQ (w11.setCell ⟨bp, 1, none⟩ (.slice (some ⟨g2, 0, none⟩) (lev + 1) cap2)) (bp + 1) bp (some ⟨gg, 0, none⟩) (lev + 1) cap (Vs ++ [.slice A' (p - f) c']) (some ⟨g2, 0, none⟩) (lev + 1) cap2 (Us ++ [.slice B' (q - (p + 1)) d']) (GB (lev + 1)) (GF (lev + 1))) := Lib.hid (by rw [HFMl.out]; exact hQN)
          clear hQN hS1 hS2 hS3 hS4 hQa hKa hBa hba c1a c2a c3a f3a e1 e2 hne
          go_wp2_with fail
          exact ⟨⟨lev + 1, _, _, cap, cap2, _, _, by omega, by go_num, HQN, hRN2, hHN2, hBN2⟩, by simp [intOf]; omega⟩
        refine AllReadyH.cons (o := ⟨some 66, _, _, _, _, _⟩) rfl (fun K9 hK9 => ?_) AllReadyH.nil
        · skip
          go_simp; go_at_call 31
          refine (qclone_any (some ⟨gr, o2, none⟩) (d - (p + 1)) (q - (p + 1)) P2 w10.drew hTN.out hPA (fun h => by cases h) (by omega)).mono ?_
          rintro e wb ⟨B', d', rfl, hOv, hba⟩
          have hKa := (show Blk w10.drew bg 64 #[vi f, vi p, vi q] from hKN).below hba
          have hS1 := pgS_of hKa
          have hQa := (show PQ w10.drew (bp + 1) bp (some ⟨gg, 0, none⟩) (lev + 1) cap (Vs ++ [.slice A' (p - f) c']) Y lev c2 Us (GB (lev + 1)) (GF lev) from HQ9.out.drew).below hba
          have hOw : wb.ownsRow (bp + 1) 9 1 (.slice B' (q - (p + 1)) d') P2.length (P2.map sv) := by rw [hPA]; exact yown_base hOv (show bp + 1 ≤ w10.heap.size from HQ9.out.bs)
          have hBa := bt (show Below w.heap.size w w10.drew from hBN.out.drew) hba
          have c1a := hQa.blk.cell 1
          have e1 : gr < wb.heap.size := Nat.lt_of_lt_of_le hGL.out hba.size
          have e2 : wb.heap[gr]? = w10.heap[gr]? := hba.block gr hGL.out
          refine hK9.out _ _ ?_ (fun hHeld => ?_)
          · exact hS1
          clear hK9 K9
          try simp only [Act.put, List.setIfInBounds_toArray, List.set_cons_zero, List.set_cons_succ]
          refine wpAnyH_ready (rs := [1, 10]) (by kernel_rfl) (by simp) ?_
          refine AllReadyH.cons (o := ⟨some 58, _, _, _, _, _⟩) rfl (fun K9 hK9 => ?_) ?_
          · skip
            go_simp
            refine hK9.out _ _ ?_ (fun hHeld => ?_)
            · first | exact hS0 | exact hS1 | exact hS2
            clear hK9 K9
            try simp only [Act.put, List.setIfInBounds_toArray, List.set_cons_zero, List.set_cons_succ]
            refine wpAnyH_ready (rs := [10]) (by kernel_rfl) (by simp) ?_
            refine AllReadyH.cons (o := ⟨some 67, _, _, _, _, _⟩) rfl (fun K9 hK9 => ?_) AllReadyH.nil
            go_simp
            have hS2 := pgS_of (hKa.alloc (.cells #[.slice B' (q - (p + 1)) d'] 43))
            have c2a := (hQa.blk.alloc (.cells #[.slice B' (q - (p + 1)) d'] 43)).cell 1
            have O2 := own_later hQa.row1 (ba (Below.refl wb.heap.size wb) (.cells #[.slice B' (q - (p + 1)) d'] 43))
            refine hK9.out _ _ ?_ (fun hHeld => ?_)
            · exact hS2
            clear hK9 K9
            try simp only [Act.put, List.setIfInBounds_toArray, List.set_cons_zero, List.set_cons_succ]
            refine wpAnyH_ready (rs := [11]) (by kernel_rfl) (by simp) ?_
            refine AllReadyH.cons (o := ⟨some 68, _, _, _, _, _⟩) rfl (fun K9 hK9 => ?_) AllReadyH.nil
            refine step_append_lies _ (by rfl) _ _ _ (by rfl) (bp + 1) 43 li (.slice none 0 0) 1 24 Tryz.underlying24 hli jz0 jz1 jz2 rfl (by omega) (.slice Y lev c2) lev Us (by rfl) O2 ⟨wb.heap.size, 0, none⟩ 1 1 [.slice B' (q - (p + 1)) d'] (by rfl) rfl (World.news_of_block (heap_alloc_new wb (.cells #[.slice B' (q - (p + 1)) d'] 43))) (by simp [Value.oneCell']) (by omega) (by unfold maxLen; omega) (by omega) (Nat.le_trans hQa.bs (ba (Below.refl wb.heap.size wb) (.cells #[.slice B' (q - (p + 1)) d'] 43)).size) (wb.heap.size + 1) (by simp) ?_
            intro g2 cap2 w11 hown9 hgrow hat hlt9
            have hne : (Value.slice Y lev c2).ownBlock ≠ some bg := vown_ne hQa.row1 hKa (by decide)
            have hK9 : Blk w11 bg 64 #[vi f, vi p, vi q] := (hKa.alloc (.cells #[.slice B' (q - (p + 1)) d'] 43)).grown hgrow (fun e => hne e.symm)
            have hS3 := pgS_of hK9
            have hB9 : Blk w11 bp 26 #[.slice (some ⟨gg, 0, none⟩) (lev + 1) cap, .slice Y lev c2] := (hQa.blk.alloc (.cells #[.slice B' (q - (p + 1)) d'] 43)).grown hgrow (fun e => by have := (hQa.row1.lt bp e.symm).1; omega)
            have c3a := hB9.cell 1
            have f3a := hB9.frozen 1
            obtain ⟨hQN, hEN⟩ := hQa.put1 hOw O2 hown9 hgrow hat
            have hKN2 := (hEN bg hKa.lt (by have := HBG.out; omega) hne).trans hKa
            have hS4 := pgS_of hKN2
            have hHN2 := Lib.hid ((hEN gh (((show Blk w10 gh 3 ((HH.map vi).toArray) from hHN.out).drew.below hba).lt) (by have := HLH.out.1; omega) (fun e => by have := (hQa.row1.lt gh e).1; have := HLH.out.1; omega)).trans ((show Blk w10 gh 3 ((HH.map vi).toArray) from hHN.out).drew.below hba))
            have hRN2 := Lib.hid ((hEN w.heap.size (((show Blk w10 w.heap.size 26 #[.slice none 0 0, .slice none 0 0] from hRN.out).drew.below hba).lt) (by have := HLH.out.2; omega) (fun e => by have := (hQa.row1.lt w.heap.size e).1; have := HLH.out.2; omega)).trans ((show Blk w10 w.heap.size 26 #[.slice none 0 0, .slice none 0 0] from hRN.out).drew.below hba))
            have hGN : (w11.setCell ⟨bp, 1, none⟩ (.slice (some ⟨g2, 0, none⟩) (lev + 1) cap2)).heap[gr]? = wb.heap[gr]? := hEN gr e1 (by have := HBP.out; have := HFR.out; omega) (fun e => by have := HYL.out gr e; have := HFR.out; omega)
            have hGL2 := Lib.hid (show gr < (w11.setCell ⟨bp, 1, none⟩ (.slice (some ⟨g2, 0, none⟩) (lev + 1) cap2)).heap.size by have h7 := hgrow.size; simp at h7 ⊢; omega)
            have hBN2 := Lib.hid (bs (b := bp) (o := 1) ((ba hBa (.cells #[.slice B' (q - (p + 1)) d'] 43)).grown hgrow (ba hBa (.cells #[.slice B' (q - (p + 1)) d'] 43)).size (fun k e => by have := (hQa.row1.lt k e).1; have := HLH.out.2; omega)) (by have := HLH.out.2; omega) (.slice (some ⟨g2, 0, none⟩) (lev + 1) cap2))
            clear hown9 hgrow hat hlt9 hK9 hB9 hEN hGN hOw hOv O2
            refine hK9.out _ _ ?_ (fun hHeld => ?_)
            · exact hS3
            clear hK9 K9
            try simp only [Act.put, List.setIfInBounds_toArray, List.set_cons_zero, List.set_cons_succ]
            refine wpAnyH_take (i := 12) (oi := ⟨some 69, _, _, _, _, _⟩) (v := ?_) rfl (by kernel_rfl) (by kernel_rfl) (by kernel_rfl) (fun _ _ _ h => h) (Or.inl ⟨by rfl, ?_⟩) (by assumption) ?_
            rotate_left
            · (intro w9 hSw; (try dsimp only at hSw); go_simp; try with_reducible rfl)
            try simp only [Act.put, List.setIfInBounds_toArray, List.set_cons_zero, List.set_cons_succ]
            refine wpAnyH_ready (rs := [13]) (by kernel_rfl) (by simp) ?_
            refine AllReadyH.cons (o := ⟨none, _, _, _, _, _⟩) rfl (fun K9 hK9 => ?_) AllReadyH.nil
            go_simp
            refine hK9.out _ _ ?_ (fun hHeld => ?_)
            · exact hS4
            clear hK9 K9
            try simp only [Act.put]
            refine wpAnyH_done (by kernel_rfl) ?_ _
            have HQN : Hid (PQ (w11.setCell ⟨bp, 1, none⟩ (.slice (some ⟨g2, 0, none⟩) (lev + 1) cap2)) (bp + 1) bp (some ⟨gg, 0, none⟩) (lev + 1) cap (Vs ++ [.slice A' (p - f) c']) (some ⟨g2, 0, none⟩) (lev + 1) cap2 (Us ++ [.slice B' (q - (p + 1)) d']) (GB (lev + 1)) (GF (lev + 1))) := Lib.hid (by rw [HFMl.out]; exact hQN)
            clear hQN hS1 hS2 hS3 hS4 hQa hKa hBa hba c1a c2a c3a f3a e1 e2 hne
            go_wp2_with fail
            exact ⟨⟨lev + 1, _, _, cap, cap2, _, _, by omega, by go_num, HQN, hRN2, hHN2, hBN2⟩, by simp [intOf]; omega⟩
          refine AllReadyH.cons (o := ⟨some 67, _, _, _, _, _⟩) rfl (fun K9 hK9 => ?_) AllReadyH.nil
          · skip
            go_simp
            have hS2 := pgS_of (hKa.alloc (.cells #[.slice B' (q - (p + 1)) d'] 43))
            have c2a := (hQa.blk.alloc (.cells #[.slice B' (q - (p + 1)) d'] 43)).cell 1
            have O2 := own_later hQa.row1 (ba (Below.refl wb.heap.size wb) (.cells #[.slice B' (q - (p + 1)) d'] 43))
            refine hK9.out _ _ ?_ (fun hHeld => ?_)
            · exact hS2
            clear hK9 K9
            try simp only [Act.put, List.setIfInBounds_toArray, List.set_cons_zero, List.set_cons_succ]
            refine wpAnyH_ready (rs := [1]) (by kernel_rfl) (by simp) ?_
            refine AllReadyH.cons (o := ⟨some 58, _, _, _, _, _⟩) rfl (fun K9 hK9 => ?_) AllReadyH.nil
            go_simp
            refine hK9.out _ _ ?_ (fun hHeld => ?_)
            · first | exact hS0 | exact hS1 | exact hS2
            clear hK9 K9
            try simp only [Act.put, List.setIfInBounds_toArray, List.set_cons_zero, List.set_cons_succ]
            refine wpAnyH_ready (rs := [11]) (by kernel_rfl) (by simp) ?_
            refine AllReadyH.cons (o := ⟨some 68, _, _, _, _, _⟩) rfl (fun K9 hK9 => ?_) AllReadyH.nil
            refine step_append_lies _ (by rfl) _ _ _ (by rfl) (bp + 1) 43 li (.slice none 0 0) 1 24 Tryz.underlying24 hli jz0 jz1 jz2 rfl (by omega) (.slice Y lev c2) lev Us (by rfl) O2 ⟨wb.heap.size, 0, none⟩ 1 1 [.slice B' (q - (p + 1)) d'] (by rfl) rfl (World.news_of_block (heap_alloc_new wb (.cells #[.slice B' (q - (p + 1)) d'] 43))) (by simp [Value.oneCell']) (by omega) (by unfold maxLen; omega) (by omega) (Nat.le_trans hQa.bs (ba (Below.refl wb.heap.size wb) (.cells #[.slice B' (q - (p + 1)) d'] 43)).size) (wb.heap.size + 1) (by simp) ?_
            intro g2 cap2 w11 hown9 hgrow hat hlt9
            have hne : (Value.slice Y lev c2).ownBlock ≠ some bg := vown_ne hQa.row1 hKa (by decide)
            have hK9 : Blk w11 bg 64 #[vi f, vi p, vi q] := (hKa.alloc (.cells #[.slice B' (q - (p + 1)) d'] 43)).grown hgrow (fun e => hne e.symm)
            have hS3 := pgS_of hK9
            have hB9 : Blk w11 bp 26 #[.slice (some ⟨gg, 0, none⟩) (lev + 1) cap, .slice Y lev c2] := (hQa.blk.alloc (.cells #[.slice B' (q - (p + 1)) d'] 43)).grown hgrow (fun e => by have := (hQa.row1.lt bp e.symm).1; omega)
            have c3a := hB9.cell 1
            have f3a := hB9.frozen 1
            obtain ⟨hQN, hEN⟩ := hQa.put1 hOw O2 hown9 hgrow hat
            have hKN2 := (hEN bg hKa.lt (by have := HBG.out; omega) hne).trans hKa
            have hS4 := pgS_of hKN2
            have hHN2 := Lib.hid ((hEN gh (((show Blk w10 gh 3 ((HH.map vi).toArray) from hHN.out).drew.below hba).lt) (by have := HLH.out.1; omega) (fun e => by have := (hQa.row1.lt gh e).1; have := HLH.out.1; omega)).trans ((show Blk w10 gh 3 ((HH.map vi).toArray) from hHN.out).drew.below hba))
            have hRN2 := Lib.hid ((hEN w.heap.size (((show Blk w10 w.heap.size 26 #[.slice none 0 0, .slice none 0 0] from hRN.out).drew.below hba).lt) (by have := HLH.out.2; omega) (fun e => by have := (hQa.row1.lt w.heap.size e).1; have := HLH.out.2; omega)).trans ((show Blk w10 w.heap.size 26 #[.slice none 0 0, .slice none 0 0] from hRN.out).drew.below hba))
            have hGN : (w11.setCell ⟨bp, 1, none⟩ (.slice (some ⟨g2, 0, none⟩) (lev + 1) cap2)).heap[gr]? = wb.heap[gr]? := hEN gr e1 (by have := HBP.out; have := HFR.out; omega) (fun e => by have := HYL.out gr e; have := HFR.out; omega)
            have hGL2 := Lib.hid (show gr < (w11.setCell ⟨bp, 1, none⟩ (.slice (some ⟨g2, 0, none⟩) (lev + 1) cap2)).heap.size by have h7 := hgrow.size; simp at h7 ⊢; omega)
            have hBN2 := Lib.hid (bs (b := bp) (o := 1) ((ba hBa (.cells #[.slice B' (q - (p + 1)) d'] 43)).grown hgrow (ba hBa (.cells #[.slice B' (q - (p + 1)) d'] 43)).size (fun k e => by have := (hQa.row1.lt k e).1; have := HLH.out.2; omega)) (by have := HLH.out.2; omega) (.slice (some ⟨g2, 0, none⟩) (lev + 1) cap2))
            clear hown9 hgrow hat hlt9 hK9 hB9 hEN hGN hOw hOv O2
            refine hK9.out _ _ ?_ (fun hHeld => ?_)
            · exact hS3
            clear hK9 K9
            try simp only [Act.put, List.setIfInBounds_toArray, List.set_cons_zero, List.set_cons_succ]
            refine wpAnyH_take (i := 12) (oi := ⟨some 69, _, _, _, _, _⟩) (v := ?_) rfl (by kernel_rfl) (by kernel_rfl) (by kernel_rfl) (fun _ _ _ h => h) (Or.inl ⟨by rfl, ?_⟩) (by assumption) ?_
            rotate_left
            · (intro w9 hSw; (try dsimp only at hSw); go_simp; try with_reducible rfl)
            try simp only [Act.put, List.setIfInBounds_toArray, List.set_cons_zero, List.set_cons_succ]
            refine wpAnyH_ready (rs := [13]) (by kernel_rfl) (by simp) ?_
            refine AllReadyH.cons (o := ⟨none, _, _, _, _, _⟩) rfl (fun K9 hK9 => ?_) AllReadyH.nil
            go_simp
            refine hK9.out _ _ ?_ (fun hHeld => ?_)
            · exact hS4
            clear hK9 K9
            try simp only [Act.put]
            refine wpAnyH_done (by kernel_rfl) ?_ _
            have HQN : Hid (PQ (w11.setCell ⟨bp, 1, none⟩ (.slice (some ⟨g2, 0, none⟩) (lev + 1) cap2)) (bp + 1) bp (some ⟨gg, 0, none⟩) (lev + 1) cap (Vs ++ [.slice A' (p - f) c']) (some ⟨g2, 0, none⟩) (lev + 1) cap2 (Us ++ [.slice B' (q - (p + 1)) d']) (GB (lev + 1)) (GF (lev + 1))) := Lib.hid (by rw [HFMl.out]; exact hQN)
            clear hQN hS1 hS2 hS3 hS4 hQa hKa hBa hba c1a c2a c3a f3a e1 e2 hne
            go_wp2_with fail
            exact ⟨⟨lev + 1, _, _, cap, cap2, _, _, by omega, by go_num, HQN, hRN2, hHN2, hBN2⟩, by simp [intOf]; omega⟩
      refine AllReadyH.cons (o := ⟨some 53, _, _, _, _, _⟩) rfl (fun K9 hK9 => ?_) AllReadyH.nil
      · skip
        go_simp; go_at_call 31
        refine (qclone_any (some ⟨gr, o1, none⟩) (d - f) (p - f) P1 w8.drew HT1.out hPB (fun h => by cases h) (by omega)).mono ?_
        rintro e wa ⟨A', c', rfl, hOv, hba⟩
        have hKa := (show Blk w8.drew bg 64 #[vi f, vi p, vi q] from KG).below hba
        have hS1 := pgS_of hKa
        have hQa := (show PQ w8.drew (bp + 1) bp X lev c1 Vs Y lev c2 Us (GB lev) (GF lev) from HQ8.out.drew).below hba
        have hOw : wa.ownsRow (bp + 1) 9 1 (.slice A' (p - f) c') P1.length (P1.map sv) := by rw [hPB]; exact yown_base hOv (show bp + 1 ≤ w8.heap.size from HQ8.out.bs)
        have hBa := bt (show Below w.heap.size w w8.drew from HB8.out.drew) hba
        have c1a := hQa.blk.cell 0
        have e1 : gr < wa.heap.size := Nat.lt_of_lt_of_le HGR.out hba.size
        have e2 : wa.heap[gr]? = w8.heap[gr]? := hba.block gr HGR.out
        refine hK9.out _ _ ?_ (fun hHeld => ?_)
        · exact hS1
        clear hK9 K9
        try simp only [Act.put, List.setIfInBounds_toArray, List.set_cons_zero, List.set_cons_succ]
        refine wpAnyH_ready (rs := [1, 9]) (by kernel_rfl) (by simp) ?_
        refine AllReadyH.cons (o := ⟨some 46, _, _, _, _, _⟩) rfl (fun K9 hK9 => ?_) ?_
        · skip
          go_simp
          refine hK9.out _ _ ?_ (fun hHeld => ?_)
          · first | exact hS0 | exact hS1 | exact hS2
          clear hK9 K9
          try simp only [Act.put, List.setIfInBounds_toArray, List.set_cons_zero, List.set_cons_succ]
          refine wpAnyH_ready (rs := [9]) (by kernel_rfl) (by simp) ?_
          refine AllReadyH.cons (o := ⟨some 54, _, _, _, _, _⟩) rfl (fun K9 hK9 => ?_) AllReadyH.nil
          go_simp
          have hS2 := pgS_of (hKa.alloc (.cells #[.slice A' (p - f) c'] 43))
          have c2a := (hQa.blk.alloc (.cells #[.slice A' (p - f) c'] 43)).cell 0
          have O2 := own_later hQa.row0 (ba (Below.refl wa.heap.size wa) (.cells #[.slice A' (p - f) c'] 43))
          refine hK9.out _ _ ?_ (fun hHeld => ?_)
          · exact hS2
          clear hK9 K9
          try simp only [Act.put, List.setIfInBounds_toArray, List.set_cons_zero, List.set_cons_succ]
          refine wpAnyH_ready (rs := [10]) (by kernel_rfl) (by simp) ?_
          refine AllReadyH.cons (o := ⟨some 55, _, _, _, _, _⟩) rfl (fun K9 hK9 => ?_) AllReadyH.nil
          refine step_append_lies _ (by rfl) _ _ _ (by rfl) (bp + 1) 43 li (.slice none 0 0) 1 24 Tryz.underlying24 hli jz0 jz1 jz2 rfl (by omega) (.slice X lev c1) lev Vs (by rfl) O2 ⟨wa.heap.size, 0, none⟩ 1 1 [.slice A' (p - f) c'] (by rfl) rfl (World.news_of_block (heap_alloc_new wa (.cells #[.slice A' (p - f) c'] 43))) (by simp [Value.oneCell']) (by omega) (by unfold maxLen; omega) (by omega) (Nat.le_trans hQa.bs (ba (Below.refl wa.heap.size wa) (.cells #[.slice A' (p - f) c'] 43)).size) (wa.heap.size + 1) (by simp) ?_
          intro gg cap w9 hown9 hgrow hat hlt9
          have hne : (Value.slice X lev c1).ownBlock ≠ some bg := vown_ne hQa.row0 hKa (by decide)
          have hK9 : Blk w9 bg 64 #[vi f, vi p, vi q] := (hKa.alloc (.cells #[.slice A' (p - f) c'] 43)).grown hgrow (fun e => hne e.symm)
          have hS3 := pgS_of hK9
          have hB9 : Blk w9 bp 26 #[.slice X lev c1, .slice Y lev c2] := (hQa.blk.alloc (.cells #[.slice A' (p - f) c'] 43)).grown hgrow (fun e => by have := (hQa.row0.lt bp e.symm).1; omega)
          have c3a := hB9.cell 0
          have f3a := hB9.frozen 0
          obtain ⟨hQN, hEN⟩ := hQa.put0 hOw O2 hown9 hgrow hat
          have hKN := (hEN bg hKa.lt (by have := HBG.out; omega) hne).trans hKa
          have hS4 := pgS_of hKN
          have hHN := Lib.hid ((hEN gh (((show Blk w8 gh 3 ((HH.map vi).toArray) from HH8.out).drew.below hba).lt) (by have := HLH.out.1; omega) (fun e => by have := (hQa.row0.lt gh e).1; have := HLH.out.1; omega)).trans ((show Blk w8 gh 3 ((HH.map vi).toArray) from HH8.out).drew.below hba))
          have hRN := Lib.hid ((hEN w.heap.size (((show Blk w8 w.heap.size 26 #[.slice none 0 0, .slice none 0 0] from HK8.out).drew.below hba).lt) (by have := HLH.out.2; omega) (fun e => by have := (hQa.row0.lt w.heap.size e).1; have := HLH.out.2; omega)).trans ((show Blk w8 w.heap.size 26 #[.slice none 0 0, .slice none 0 0] from HK8.out).drew.below hba))
          have hGN : (w9.setCell ⟨bp, 0, none⟩ (.slice (some ⟨gg, 0, none⟩) (lev + 1) cap)).heap[gr]? = wa.heap[gr]? := hEN gr e1 (by have := HBP.out; have := HFR.out; omega) (fun e => by have := HXL.out gr e; have := HFR.out; omega)
          have hGL := Lib.hid (show gr < (w9.setCell ⟨bp, 0, none⟩ (.slice (some ⟨gg, 0, none⟩) (lev + 1) cap)).heap.size by have h7 := hgrow.size; simp at h7 ⊢; omega)
          have hBN := Lib.hid (bs (b := bp) (o := 0) ((ba hBa (.cells #[.slice A' (p - f) c'] 43)).grown hgrow (ba hBa (.cells #[.slice A' (p - f) c'] 43)).size (fun k e => by have := (hQa.row0.lt k e).1; have := HLH.out.2; omega)) (by have := HLH.out.2; omega) (.slice (some ⟨gg, 0, none⟩) (lev + 1) cap))
          have hTN := Lib.hid (HT2.out.kp (w' := w9.setCell ⟨bp, 0, none⟩ (.slice (some ⟨gg, 0, none⟩) (lev + 1) cap)) (fun a e => by cases e; exact hGN.trans e2))
          clear hown9 hgrow hat hlt9 hK9 hB9 hEN hGN hOw hOv O2
          refine hK9.out _ _ ?_ (fun hHeld => ?_)
          · exact hS3
          clear hK9 K9
          try simp only [Act.put, List.setIfInBounds_toArray, List.set_cons_zero, List.set_cons_succ]
          refine wpAnyH_take (i := 11) (oi := ⟨some 56, _, _, _, _, _⟩) (v := ?_) rfl (by kernel_rfl) (by kernel_rfl) (by kernel_rfl) (fun _ _ _ h => h) (Or.inl ⟨by rfl, ?_⟩) (by assumption) ?_
          rotate_left
          · (intro w9 hSw; (try dsimp only at hSw); go_simp; try with_reducible rfl)
          try simp only [Act.put, List.setIfInBounds_toArray, List.set_cons_zero, List.set_cons_succ]
          refine wpAnyH_ready (rs := [12]) (by kernel_rfl) (by simp) ?_
          refine AllReadyH.cons (o := ⟨none, _, _, _, _, _⟩) rfl (fun K9 hK9 => ?_) AllReadyH.nil
          go_simp
          refine hK9.out _ _ ?_ (fun hHeld => ?_)
          · exact hS4
          clear hK9 K9
          try simp only [Act.put]
          refine wpAnyH_done (by kernel_rfl) ?_ _
          have HQ9 : Hid (PQ (w9.setCell ⟨bp, 0, none⟩ (.slice (some ⟨gg, 0, none⟩) (lev + 1) cap)) (bp + 1) bp (some ⟨gg, 0, none⟩) (lev + 1) cap (Vs ++ [.slice A' (p - f) c']) Y lev c2 Us (GB (lev + 1)) (GF lev)) := Lib.hid (by rw [HGMl.out]; exact hQN)
          clear hQN hS1 hS2 hS3 hS4 hQa hKa hBa hba c1a c2a c3a f3a e1 e2 hne
          go_wp2_with fail
          generalize (w9.setCell ⟨bp, 0, none⟩ (.slice (some ⟨gg, 0, none⟩) (lev + 1) cap)) = w10 at hKN hRN hHN hBN hTN hGL HQ9 ⊢
          have c08 := HQ9.out.blk.cell 1
          simp only [List.getElem?_toArray, List.getElem?_cons_zero, List.getElem?_cons_succ] at c08
          have hS0 := pgS_of hKN
          refine wp_region_held_drew (S := fun W => Blk W bg 64 #[vi f, vi p, vi q] ∧ W.cell? ⟨bg, 0, none⟩ = some (vi f) ∧ W.cell? ⟨bg, 1, none⟩ = some (vi p) ∧ W.cell? ⟨bg, 2, none⟩ = some (vi q)) (by kernel_rfl) (pgS_of hKN) (fun hHeld => ?_)
          refine wpAnyH_take (i := 0) (oi := ⟨some 57, _, _, _, _, _⟩) (v := ?_) rfl (by kernel_rfl) (by kernel_rfl) (by kernel_rfl) (fun _ _ _ h => h) (Or.inl ⟨by rfl, ?_⟩) (by assumption) ?_
          rotate_left
          · (intro w9 hSw; (try dsimp only at hSw); go_simp; try with_reducible rfl)
          try simp only [Act.put, List.setIfInBounds_toArray, List.set_cons_zero, List.set_cons_succ]
          refine wpAnyH_take (i := 2) (oi := ⟨some 59, _, _, _, _, _⟩) (v := ?_) rfl (by kernel_rfl) (by kernel_rfl) (by kernel_rfl) (fun _ _ _ h => h) (Or.inl ⟨by rfl, ?_⟩) (by assumption) ?_
          rotate_left
          · (intro w9 hSw; (try dsimp only at hSw); go_simp; try with_reducible rfl)
          try simp only [Act.put, List.setIfInBounds_toArray, List.set_cons_zero, List.set_cons_succ]
          refine wpAnyH_take (i := 3) (oi := ⟨some 60, _, _, _, _, _⟩) (v := ?_) rfl (by kernel_rfl) (by kernel_rfl) (by kernel_rfl) (fun _ _ _ h => h) (Or.inl ⟨by rfl, ?_⟩) (by assumption) ?_
          rotate_left
          · (intro w9 hSw; (try dsimp only at hSw); go_simp; try with_reducible rfl)
          try simp only [Act.put, List.setIfInBounds_toArray, List.set_cons_zero, List.set_cons_succ]
          refine wpAnyH_take (i := 4) (oi := ⟨some 61, _, _, _, _, _⟩) (v := ?_) rfl (by kernel_rfl) (by kernel_rfl) (by kernel_rfl) (fun _ _ _ h => h) (Or.inl ⟨by rfl, ?_⟩) (by assumption) ?_
          rotate_left
          · (intro w9 hSw; (try dsimp only at hSw); go_simp; try with_reducible rfl)
          try simp only [Act.put, List.setIfInBounds_toArray, List.set_cons_zero, List.set_cons_succ]
          refine wpAnyH_take (i := 5) (oi := ⟨some 62, _, _, _, _, _⟩) (v := .int .i64 ((p : Int) + 1)) rfl (by kernel_rfl) (by kernel_rfl) (by kernel_rfl) (fun _ _ _ h => h) (Or.inl ⟨by rfl, ?_⟩) (by assumption) ?_
          · (intro w9 hSw; (try dsimp only at hSw); go_simp; try with_reducible rfl)
          try simp only [Act.put, List.setIfInBounds_toArray, List.set_cons_zero, List.set_cons_succ]
          refine wpAnyH_take (i := 6) (oi := ⟨some 63, _, _, _, _, _⟩) (v := ?_) rfl (by kernel_rfl) (by kernel_rfl) (by kernel_rfl) (fun _ _ _ h => h) (Or.inl ⟨by rfl, ?_⟩) (by assumption) ?_
          rotate_left
          · (intro w9 hSw; (try dsimp only at hSw); go_simp; try with_reducible rfl)
          try simp only [Act.put, List.setIfInBounds_toArray, List.set_cons_zero, List.set_cons_succ]
          refine wpAnyH_take (i := 7) (oi := ⟨some 64, _, _, _, _, _⟩) (v := ?_) rfl (by kernel_rfl) (by kernel_rfl) (by kernel_rfl) (fun _ _ _ h => h) (Or.inl ⟨by rfl, ?_⟩) (by assumption) ?_
          rotate_left
          · (intro w9 hSw; (try dsimp only at hSw); go_simp; try with_reducible rfl)
          try simp only [Act.put, List.setIfInBounds_toArray, List.set_cons_zero, List.set_cons_succ]
          refine wpAnyH_take (i := 8) (oi := ⟨some 65, _, _, _, _, _⟩) (v := .slice (some ⟨gr, o2, none⟩) (q - (p + 1)) (d - (p + 1))) rfl (by kernel_rfl) (by kernel_rfl) (by kernel_rfl) (fun _ _ _ h => h) (Or.inl ⟨by rfl, ?_⟩) (by assumption) ?_
          · (intro w9 hSw; (try dsimp only at hSw); go_simp; try with_reducible rfl)
          try simp only [Act.put, List.setIfInBounds_toArray, List.set_cons_zero, List.set_cons_succ]
          refine wpAnyH_ready (rs := [1, 9]) (by kernel_rfl) (by simp) ?_
          refine AllReadyH.cons (o := ⟨some 58, _, _, _, _, _⟩) rfl (fun K9 hK9 => ?_) ?_
          · skip
            go_simp
            refine hK9.out _ _ ?_ (fun hHeld => ?_)
            · first | exact hS0 | exact hS1 | exact hS2
            clear hK9 K9
            try simp only [Act.put, List.setIfInBounds_toArray, List.set_cons_zero, List.set_cons_succ]
            refine wpAnyH_ready (rs := [9]) (by kernel_rfl) (by simp) ?_
            refine AllReadyH.cons (o := ⟨some 66, _, _, _, _, _⟩) rfl (fun K9 hK9 => ?_) AllReadyH.nil
            go_simp; go_at_call 31
            refine (qclone_any (some ⟨gr, o2, none⟩) (d - (p + 1)) (q - (p + 1)) P2 w10.drew hTN.out hPA (fun h => by cases h) (by omega)).mono ?_
            rintro e wb ⟨B', d', rfl, hOv, hba⟩
            have hKa := (show Blk w10.drew bg 64 #[vi f, vi p, vi q] from hKN).below hba
            have hS1 := pgS_of hKa
            have hQa := (show PQ w10.drew (bp + 1) bp (some ⟨gg, 0, none⟩) (lev + 1) cap (Vs ++ [.slice A' (p - f) c']) Y lev c2 Us (GB (lev + 1)) (GF lev) from HQ9.out.drew).below hba
            have hOw : wb.ownsRow (bp + 1) 9 1 (.slice B' (q - (p + 1)) d') P2.length (P2.map sv) := by rw [hPA]; exact yown_base hOv (show bp + 1 ≤ w10.heap.size from HQ9.out.bs)
            have hBa := bt (show Below w.heap.size w w10.drew from hBN.out.drew) hba
            have c1a := hQa.blk.cell 1
            have e1 : gr < wb.heap.size := Nat.lt_of_lt_of_le hGL.out hba.size
            have e2 : wb.heap[gr]? = w10.heap[gr]? := hba.block gr hGL.out
            refine hK9.out _ _ ?_ (fun hHeld => ?_)
            · exact hS1
            clear hK9 K9
            try simp only [Act.put, List.setIfInBounds_toArray, List.set_cons_zero, List.set_cons_succ]
            refine wpAnyH_ready (rs := [10]) (by kernel_rfl) (by simp) ?_
            refine AllReadyH.cons (o := ⟨some 67, _, _, _, _, _⟩) rfl (fun K9 hK9 => ?_) AllReadyH.nil
            go_simp
            have hS2 := pgS_of (hKa.alloc (.cells #[.slice B' (q - (p + 1)) d'] 43))
            have c2a := (hQa.blk.alloc (.cells #[.slice B' (q - (p + 1)) d'] 43)).cell 1
            have O2 := own_later hQa.row1 (ba (Below.refl wb.heap.size wb) (.cells #[.slice B' (q - (p + 1)) d'] 43))
            refine hK9.out _ _ ?_ (fun hHeld => ?_)
            · exact hS2
            clear hK9 K9
            try simp only [Act.put, List.setIfInBounds_toArray, List.set_cons_zero, List.set_cons_succ]
            refine wpAnyH_ready (rs := [11]) (by kernel_rfl) (by simp) ?_
            refine AllReadyH.cons (o := ⟨some 68, _, _, _, _, _⟩) rfl (fun K9 hK9 => ?_) AllReadyH.nil
            refine step_append_lies _ (by rfl) _ _ _ (by rfl) (bp + 1) 43 li (.slice none 0 0) 1 24 Tryz.underlying24 hli jz0 jz1 jz2 rfl (by omega) (.slice Y lev c2) lev Us (by rfl) O2 ⟨wb.heap.size, 0, none⟩ 1 1 [.slice B' (q - (p + 1)) d'] (by rfl) rfl (World.news_of_block (heap_alloc_new wb (.cells #[.slice B' (q - (p + 1)) d'] 43))) (by simp [Value.oneCell']) (by omega) (by unfold maxLen; omega) (by omega) (Nat.le_trans hQa.bs (ba (Below.refl wb.heap.size wb) (.cells #[.slice B' (q - (p + 1)) d'] 43)).size) (wb.heap.size + 1) (by simp) ?_
            intro g2 cap2 w11 hown9 hgrow hat hlt9
            have hne : (Value.slice Y lev c2).ownBlock ≠ some bg := vown_ne hQa.row1 hKa (by decide)
            have hK9 : Blk w11 bg 64 #[vi f, vi p, vi q] := (hKa.alloc (.cells #[.slice B' (q - (p + 1)) d'] 43)).grown hgrow (fun e => hne e.symm)
            have hS3 := pgS_of hK9
            have hB9 : Blk w11 bp 26 #[.slice (some ⟨gg, 0, none⟩) (lev + 1) cap, .slice Y lev c2] := (hQa.blk.alloc (.cells #[.slice B' (q - (p + 1)) d'] 43)).grown hgrow (fun e => by have := (hQa.row1.lt bp e.symm).1; omega)
            have c3a := hB9.cell 1
            have f3a := hB9.frozen 1
            obtain ⟨hQN, hEN⟩ := hQa.put1 hOw O2 hown9 hgrow hat
            have hKN2 := (hEN bg hKa.lt (by have := HBG.out; omega) hne).trans hKa
            have hS4 := pgS_of hKN2
            have hHN2 := Lib.hid ((hEN gh (((show Blk w10 gh 3 ((HH.map vi).toArray) from hHN.out).drew.below hba).lt) (by have := HLH.out.1; omega) (fun e => by have := (hQa.row1.lt gh e).1; have := HLH.out.1; omega)).trans ((show Blk w10 gh 3 ((HH.map vi).toArray) from hHN.out).drew.below hba))
            have hRN2 := Lib.hid ((hEN w.heap.size (((show Blk w10 w.heap.size 26 #[.slice none 0 0, .slice none 0 0] from hRN.out).drew.below hba).lt) (by have := HLH.out.2; omega) (fun e => by have := (hQa.row1.lt w.heap.size e).1; have := HLH.out.2; omega)).trans ((show Blk w10 w.heap.size 26 #[.slice none 0 0, .slice none 0 0] from hRN.out).drew.below hba))
            have hGN : (w11.setCell ⟨bp, 1, none⟩ (.slice (some ⟨g2, 0, none⟩) (lev + 1) cap2)).heap[gr]? = wb.heap[gr]? := hEN gr e1 (by have := HBP.out; have := HFR.out; omega) (fun e => by have := HYL.out gr e; have := HFR.out; omega)
            have hGL2 := Lib.hid (show gr < (w11.setCell ⟨bp, 1, none⟩ (.slice (some ⟨g2, 0, none⟩) (lev + 1) cap2)).heap.size by have h7 := hgrow.size; simp at h7 ⊢; omega)
            have hBN2 := Lib.hid (bs (b := bp) (o := 1) ((ba hBa (.cells #[.slice B' (q - (p + 1)) d'] 43)).grown hgrow (ba hBa (.cells #[.slice B' (q - (p + 1)) d'] 43)).size (fun k e => by have := (hQa.row1.lt k e).1; have := HLH.out.2; omega)) (by have := HLH.out.2; omega) (.slice (some ⟨g2, 0, none⟩) (lev + 1) cap2))
            clear hown9 hgrow hat hlt9 hK9 hB9 hEN hGN hOw hOv O2
            refine hK9.out _ _ ?_ (fun hHeld => ?_)
            · exact hS3
            clear hK9 K9
            try simp only [Act.put, List.setIfInBounds_toArray, List.set_cons_zero, List.set_cons_succ]
            refine wpAnyH_take (i := 12) (oi := ⟨some 69, _, _, _, _, _⟩) (v := ?_) rfl (by kernel_rfl) (by kernel_rfl) (by kernel_rfl) (fun _ _ _ h => h) (Or.inl ⟨by rfl, ?_⟩) (by assumption) ?_
            rotate_left
            · (intro w9 hSw; (try dsimp only at hSw); go_simp; try with_reducible rfl)
            try simp only [Act.put, List.setIfInBounds_toArray, List.set_cons_zero, List.set_cons_succ]
            refine wpAnyH_ready (rs := [13]) (by kernel_rfl) (by simp) ?_
            refine AllReadyH.cons (o := ⟨none, _, _, _, _, _⟩) rfl (fun K9 hK9 => ?_) AllReadyH.nil
            go_simp
            refine hK9.out _ _ ?_ (fun hHeld => ?_)
            · exact hS4
            clear hK9 K9
            try simp only [Act.put]
            refine wpAnyH_done (by kernel_rfl) ?_ _
            have HQN : Hid (PQ (w11.setCell ⟨bp, 1, none⟩ (.slice (some ⟨g2, 0, none⟩) (lev + 1) cap2)) (bp + 1) bp (some ⟨gg, 0, none⟩) (lev + 1) cap (Vs ++ [.slice A' (p - f) c']) (some ⟨g2, 0, none⟩) (lev + 1) cap2 (Us ++ [.slice B' (q - (p + 1)) d']) (GB (lev + 1)) (GF (lev + 1))) := Lib.hid (by rw [HFMl.out]; exact hQN)
            clear hQN hS1 hS2 hS3 hS4 hQa hKa hBa hba c1a c2a c3a f3a e1 e2 hne
            go_wp2_with fail
            exact ⟨⟨lev + 1, _, _, cap, cap2, _, _, by omega, by go_num, HQN, hRN2, hHN2, hBN2⟩, by simp [intOf]; omega⟩
          refine AllReadyH.cons (o := ⟨some 66, _, _, _, _, _⟩) rfl (fun K9 hK9 => ?_) AllReadyH.nil
          · skip
            go_simp; go_at_call 31
            refine (qclone_any (some ⟨gr, o2, none⟩) (d - (p + 1)) (q - (p + 1)) P2 w10.drew hTN.out hPA (fun h => by cases h) (by omega)).mono ?_
            rintro e wb ⟨B', d', rfl, hOv, hba⟩
            have hKa := (show Blk w10.drew bg 64 #[vi f, vi p, vi q] from hKN).below hba
            have hS1 := pgS_of hKa
            have hQa := (show PQ w10.drew (bp + 1) bp (some ⟨gg, 0, none⟩) (lev + 1) cap (Vs ++ [.slice A' (p - f) c']) Y lev c2 Us (GB (lev + 1)) (GF lev) from HQ9.out.drew).below hba
            have hOw : wb.ownsRow (bp + 1) 9 1 (.slice B' (q - (p + 1)) d') P2.length (P2.map sv) := by rw [hPA]; exact yown_base hOv (show bp + 1 ≤ w10.heap.size from HQ9.out.bs)
            have hBa := bt (show Below w.heap.size w w10.drew from hBN.out.drew) hba
            have c1a := hQa.blk.cell 1
            have e1 : gr < wb.heap.size := Nat.lt_of_lt_of_le hGL.out hba.size
            have e2 : wb.heap[gr]? = w10.heap[gr]? := hba.block gr hGL.out
            refine hK9.out _ _ ?_ (fun hHeld => ?_)
            · exact hS1
            clear hK9 K9
            try simp only [Act.put, List.setIfInBounds_toArray, List.set_cons_zero, List.set_cons_succ]
            refine wpAnyH_ready (rs := [1, 10]) (by kernel_rfl) (by simp) ?_
            refine AllReadyH.cons (o := ⟨some 58, _, _, _, _, _⟩) rfl (fun K9 hK9 => ?_) ?_
            · skip
              go_simp
              refine hK9.out _ _ ?_ (fun hHeld => ?_)
              · first | exact hS0 | exact hS1 | exact hS2
              clear hK9 K9
              try simp only [Act.put, List.setIfInBounds_toArray, List.set_cons_zero, List.set_cons_succ]
              refine wpAnyH_ready (rs := [10]) (by kernel_rfl) (by simp) ?_
              refine AllReadyH.cons (o := ⟨some 67, _, _, _, _, _⟩) rfl (fun K9 hK9 => ?_) AllReadyH.nil
              go_simp
              have hS2 := pgS_of (hKa.alloc (.cells #[.slice B' (q - (p + 1)) d'] 43))
              have c2a := (hQa.blk.alloc (.cells #[.slice B' (q - (p + 1)) d'] 43)).cell 1
              have O2 := own_later hQa.row1 (ba (Below.refl wb.heap.size wb) (.cells #[.slice B' (q - (p + 1)) d'] 43))
              refine hK9.out _ _ ?_ (fun hHeld => ?_)
              · exact hS2
              clear hK9 K9
              try simp only [Act.put, List.setIfInBounds_toArray, List.set_cons_zero, List.set_cons_succ]
              refine wpAnyH_ready (rs := [11]) (by kernel_rfl) (by simp) ?_
              refine AllReadyH.cons (o := ⟨some 68, _, _, _, _, _⟩) rfl (fun K9 hK9 => ?_) AllReadyH.nil
              refine step_append_lies _ (by rfl) _ _ _ (by rfl) (bp + 1) 43 li (.slice none 0 0) 1 24 Tryz.underlying24 hli jz0 jz1 jz2 rfl (by omega) (.slice Y lev c2) lev Us (by rfl) O2 ⟨wb.heap.size, 0, none⟩ 1 1 [.slice B' (q - (p + 1)) d'] (by rfl) rfl (World.news_of_block (heap_alloc_new wb (.cells #[.slice B' (q - (p + 1)) d'] 43))) (by simp [Value.oneCell']) (by omega) (by unfold maxLen; omega) (by omega) (Nat.le_trans hQa.bs (ba (Below.refl wb.heap.size wb) (.cells #[.slice B' (q - (p + 1)) d'] 43)).size) (wb.heap.size + 1) (by simp) ?_
              intro g2 cap2 w11 hown9 hgrow hat hlt9
              have hne : (Value.slice Y lev c2).ownBlock ≠ some bg := vown_ne hQa.row1 hKa (by decide)
              have hK9 : Blk w11 bg 64 #[vi f, vi p, vi q] := (hKa.alloc (.cells #[.slice B' (q - (p + 1)) d'] 43)).grown hgrow (fun e => hne e.symm)
              have hS3 := pgS_of hK9
              have hB9 : Blk w11 bp 26 #[.slice (some ⟨gg, 0, none⟩) (lev + 1) cap, .slice Y lev c2] := (hQa.blk.alloc (.cells #[.slice B' (q - (p + 1)) d'] 43)).grown hgrow (fun e => by have := (hQa.row1.lt bp e.symm).1; omega)
              have c3a := hB9.cell 1
              have f3a := hB9.frozen 1
              obtain ⟨hQN, hEN⟩ := hQa.put1 hOw O2 hown9 hgrow hat
              have hKN2 := (hEN bg hKa.lt (by have := HBG.out; omega) hne).trans hKa
              have hS4 := pgS_of hKN2
              have hHN2 := Lib.hid ((hEN gh (((show Blk w10 gh 3 ((HH.map vi).toArray) from hHN.out).drew.below hba).lt) (by have := HLH.out.1; omega) (fun e => by have := (hQa.row1.lt gh e).1; have := HLH.out.1; omega)).trans ((show Blk w10 gh 3 ((HH.map vi).toArray) from hHN.out).drew.below hba))
              have hRN2 := Lib.hid ((hEN w.heap.size (((show Blk w10 w.heap.size 26 #[.slice none 0 0, .slice none 0 0] from hRN.out).drew.below hba).lt) (by have := HLH.out.2; omega) (fun e => by have := (hQa.row1.lt w.heap.size e).1; have := HLH.out.2; omega)).trans ((show Blk w10 w.heap.size 26 #[.slice none 0 0, .slice none 0 0] from hRN.out).drew.below hba))
              have hGN : (w11.setCell ⟨bp, 1, none⟩ (.slice (some ⟨g2, 0, none⟩) (lev + 1) cap2)).heap[gr]? = wb.heap[gr]? := hEN gr e1 (by have := HBP.out; have := HFR.out; omega) (fun e => by have := HYL.out gr e; have := HFR.out; omega)
              have hGL2 := Lib.hid (show gr < (w11.setCell ⟨bp, 1, none⟩ (.slice (some ⟨g2, 0, none⟩) (lev + 1) cap2)).heap.size by have h7 := hgrow.size; simp at h7 ⊢; omega)
              have hBN2 := Lib.hid (bs (b := bp) (o := 1) ((ba hBa (.cells #[.slice B' (q - (p + 1)) d'] 43)).grown hgrow (ba hBa (.cells #[.slice B' (q - (p + 1)) d'] 43)).size (fun k e => by have := (hQa.row1.lt k e).1; have := HLH.out.2; omega)) (by have := HLH.out.2; omega) (.slice (some ⟨g2, 0, none⟩) (lev + 1) cap2))
              clear hown9 hgrow hat hlt9 hK9 hB9 hEN hGN hOw hOv O2
              refine hK9.out _ _ ?_ (fun hHeld => ?_)
              · exact hS3
              clear hK9 K9
              try simp only [Act.put, List.setIfInBounds_toArray, List.set_cons_zero, List.set_cons_succ]
              refine wpAnyH_take (i := 12) (oi := ⟨some 69, _, _, _, _, _⟩) (v := ?_) rfl (by kernel_rfl) (by kernel_rfl) (by kernel_rfl) (fun _ _ _ h => h) (Or.inl ⟨by rfl, ?_⟩) (by assumption) ?_
              rotate_left
              · (intro w9 hSw; (try dsimp only at hSw); go_simp; try with_reducible rfl)
              try simp only [Act.put, List.setIfInBounds_toArray, List.set_cons_zero, List.set_cons_succ]
              refine wpAnyH_ready (rs := [13]) (by kernel_rfl) (by simp) ?_
              refine AllReadyH.cons (o := ⟨none, _, _, _, _, _⟩) rfl (fun K9 hK9 => ?_) AllReadyH.nil
              go_simp
              refine hK9.out _ _ ?_ (fun hHeld => ?_)
              · exact hS4
              clear hK9 K9
              try simp only [Act.put]
              refine wpAnyH_done (by kernel_rfl) ?_ _
              have HQN : Hid (PQ (w11.setCell ⟨bp, 1, none⟩ (.slice (some ⟨g2, 0, none⟩) (lev + 1) cap2)) (bp + 1) bp (some ⟨gg, 0, none⟩) (lev + 1) cap (Vs ++ [.slice A' (p - f) c']) (some ⟨g2, 0, none⟩) (lev + 1) cap2 (Us ++ [.slice B' (q - (p + 1)) d']) (GB (lev + 1)) (GF (lev + 1))) := Lib.hid (by rw [HFMl.out]; exact hQN)
              clear hQN hS1 hS2 hS3 hS4 hQa hKa hBa hba c1a c2a c3a f3a e1 e2 hne
              go_wp2_with fail
              exact ⟨⟨lev + 1, _, _, cap, cap2, _, _, by omega, by go_num, HQN, hRN2, hHN2, hBN2⟩, by simp [intOf]; omega⟩
            refine AllReadyH.cons (o := ⟨some 67, _, _, _, _, _⟩) rfl (fun K9 hK9 => ?_) AllReadyH.nil
            · skip
              go_simp
              have hS2 := pgS_of (hKa.alloc (.cells #[.slice B' (q - (p + 1)) d'] 43))
              have c2a := (hQa.blk.alloc (.cells #[.slice B' (q - (p + 1)) d'] 43)).cell 1
              have O2 := own_later hQa.row1 (ba (Below.refl wb.heap.size wb) (.cells #[.slice B' (q - (p + 1)) d'] 43))
              refine hK9.out _ _ ?_ (fun hHeld => ?_)
              · exact hS2
              clear hK9 K9
              try simp only [Act.put, List.setIfInBounds_toArray, List.set_cons_zero, List.set_cons_succ]
              refine wpAnyH_ready (rs := [1]) (by kernel_rfl) (by simp) ?_
              refine AllReadyH.cons (o := ⟨some 58, _, _, _, _, _⟩) rfl (fun K9 hK9 => ?_) AllReadyH.nil
              go_simp
              refine hK9.out _ _ ?_ (fun hHeld => ?_)
              · first | exact hS0 | exact hS1 | exact hS2
              clear hK9 K9
              try simp only [Act.put, List.setIfInBounds_toArray, List.set_cons_zero, List.set_cons_succ]
              refine wpAnyH_ready (rs := [11]) (by kernel_rfl) (by simp) ?_
              refine AllReadyH.cons (o := ⟨some 68, _, _, _, _, _⟩) rfl (fun K9 hK9 => ?_) AllReadyH.nil
              refine step_append_lies _ (by rfl) _ _ _ (by rfl) (bp + 1) 43 li (.slice none 0 0) 1 24 Tryz.underlying24 hli jz0 jz1 jz2 rfl (by omega) (.slice Y lev c2) lev Us (by rfl) O2 ⟨wb.heap.size, 0, none⟩ 1 1 [.slice B' (q - (p + 1)) d'] (by rfl) rfl (World.news_of_block (heap_alloc_new wb (.cells #[.slice B' (q - (p + 1)) d'] 43))) (by simp [Value.oneCell']) (by omega) (by unfold maxLen; omega) (by omega) (Nat.le_trans hQa.bs (ba (Below.refl wb.heap.size wb) (.cells #[.slice B' (q - (p + 1)) d'] 43)).size) (wb.heap.size + 1) (by simp) ?_
              intro g2 cap2 w11 hown9 hgrow hat hlt9
              have hne : (Value.slice Y lev c2).ownBlock ≠ some bg := vown_ne hQa.row1 hKa (by decide)
              have hK9 : Blk w11 bg 64 #[vi f, vi p, vi q] := (hKa.alloc (.cells #[.slice B' (q - (p + 1)) d'] 43)).grown hgrow (fun e => hne e.symm)
              have hS3 := pgS_of hK9
              have hB9 : Blk w11 bp 26 #[.slice (some ⟨gg, 0, none⟩) (lev + 1) cap, .slice Y lev c2] := (hQa.blk.alloc (.cells #[.slice B' (q - (p + 1)) d'] 43)).grown hgrow (fun e => by have := (hQa.row1.lt bp e.symm).1; omega)
              have c3a := hB9.cell 1
              have f3a := hB9.frozen 1
              obtain ⟨hQN, hEN⟩ := hQa.put1 hOw O2 hown9 hgrow hat
              have hKN2 := (hEN bg hKa.lt (by have := HBG.out; omega) hne).trans hKa
              have hS4 := pgS_of hKN2
              have hHN2 := Lib.hid ((hEN gh (((show Blk w10 gh 3 ((HH.map vi).toArray) from hHN.out).drew.below hba).lt) (by have := HLH.out.1; omega) (fun e => by have := (hQa.row1.lt gh e).1; have := HLH.out.1; omega)).trans ((show Blk w10 gh 3 ((HH.map vi).toArray) from hHN.out).drew.below hba))
              have hRN2 := Lib.hid ((hEN w.heap.size (((show Blk w10 w.heap.size 26 #[.slice none 0 0, .slice none 0 0] from hRN.out).drew.below hba).lt) (by have := HLH.out.2; omega) (fun e => by have := (hQa.row1.lt w.heap.size e).1; have := HLH.out.2; omega)).trans ((show Blk w10 w.heap.size 26 #[.slice none 0 0, .slice none 0 0] from hRN.out).drew.below hba))
              have hGN : (w11.setCell ⟨bp, 1, none⟩ (.slice (some ⟨g2, 0, none⟩) (lev + 1) cap2)).heap[gr]? = wb.heap[gr]? := hEN gr e1 (by have := HBP.out; have := HFR.out; omega) (fun e => by have := HYL.out gr e; have := HFR.out; omega)
              have hGL2 := Lib.hid (show gr < (w11.setCell ⟨bp, 1, none⟩ (.slice (some ⟨g2, 0, none⟩) (lev + 1) cap2)).heap.size by have h7 := hgrow.size; simp at h7 ⊢; omega)
              have hBN2 := Lib.hid (bs (b := bp) (o := 1) ((ba hBa (.cells #[.slice B' (q - (p + 1)) d'] 43)).grown hgrow (ba hBa (.cells #[.slice B' (q - (p + 1)) d'] 43)).size (fun k e => by have := (hQa.row1.lt k e).1; have := HLH.out.2; omega)) (by have := HLH.out.2; omega) (.slice (some ⟨g2, 0, none⟩) (lev + 1) cap2))
              clear hown9 hgrow hat hlt9 hK9 hB9 hEN hGN hOw hOv O2
              refine hK9.out _ _ ?_ (fun hHeld => ?_)
              · exact hS3
              clear hK9 K9
              try simp only [Act.put, List.setIfInBounds_toArray, List.set_cons_zero, List.set_cons_succ]
              refine wpAnyH_take (i := 12) (oi := ⟨some 69, _, _, _, _, _⟩) (v := ?_) rfl (by kernel_rfl) (by kernel_rfl) (by kernel_rfl) (fun _ _ _ h => h) (Or.inl ⟨by rfl, ?_⟩) (by assumption) ?_
              rotate_left
              · (intro w9 hSw; (try dsimp only at hSw); go_simp; try with_reducible rfl)
              try simp only [Act.put, List.setIfInBounds_toArray, List.set_cons_zero, List.set_cons_succ]
              refine wpAnyH_ready (rs := [13]) (by kernel_rfl) (by simp) ?_
              refine AllReadyH.cons (o := ⟨none, _, _, _, _, _⟩) rfl (fun K9 hK9 => ?_) AllReadyH.nil
              go_simp
              refine hK9.out _ _ ?_ (fun hHeld => ?_)
              · exact hS4
              clear hK9 K9
              try simp only [Act.put]
              refine wpAnyH_done (by kernel_rfl) ?_ _
              have HQN : Hid (PQ (w11.setCell ⟨bp, 1, none⟩ (.slice (some ⟨g2, 0, none⟩) (lev + 1) cap2)) (bp + 1) bp (some ⟨gg, 0, none⟩) (lev + 1) cap (Vs ++ [.slice A' (p - f) c']) (some ⟨g2, 0, none⟩) (lev + 1) cap2 (Us ++ [.slice B' (q - (p + 1)) d']) (GB (lev + 1)) (GF (lev + 1))) := Lib.hid (by rw [HFMl.out]; exact hQN)
              clear hQN hS1 hS2 hS3 hS4 hQa hKa hBa hba c1a c2a c3a f3a e1 e2 hne
              go_wp2_with fail
              exact ⟨⟨lev + 1, _, _, cap, cap2, _, _, by omega, by go_num, HQN, hRN2, hHN2, hBN2⟩, by simp [intOf]; omega⟩
        refine AllReadyH.cons (o := ⟨some 54, _, _, _, _, _⟩) rfl (fun K9 hK9 => ?_) AllReadyH.nil
        · skip
          go_simp
          have hS2 := pgS_of (hKa.alloc (.cells #[.slice A' (p - f) c'] 43))
          have c2a := (hQa.blk.alloc (.cells #[.slice A' (p - f) c'] 43)).cell 0
          have O2 := own_later hQa.row0 (ba (Below.refl wa.heap.size wa) (.cells #[.slice A' (p - f) c'] 43))
          refine hK9.out _ _ ?_ (fun hHeld => ?_)
          · exact hS2
          clear hK9 K9
          try simp only [Act.put, List.setIfInBounds_toArray, List.set_cons_zero, List.set_cons_succ]
          refine wpAnyH_ready (rs := [1]) (by kernel_rfl) (by simp) ?_
          refine AllReadyH.cons (o := ⟨some 46, _, _, _, _, _⟩) rfl (fun K9 hK9 => ?_) AllReadyH.nil
          go_simp
          refine hK9.out _ _ ?_ (fun hHeld => ?_)
          · first | exact hS0 | exact hS1 | exact hS2
          clear hK9 K9
          try simp only [Act.put, List.setIfInBounds_toArray, List.set_cons_zero, List.set_cons_succ]
          refine wpAnyH_ready (rs := [10]) (by kernel_rfl) (by simp) ?_
          refine AllReadyH.cons (o := ⟨some 55, _, _, _, _, _⟩) rfl (fun K9 hK9 => ?_) AllReadyH.nil
          refine step_append_lies _ (by rfl) _ _ _ (by rfl) (bp + 1) 43 li (.slice none 0 0) 1 24 Tryz.underlying24 hli jz0 jz1 jz2 rfl (by omega) (.slice X lev c1) lev Vs (by rfl) O2 ⟨wa.heap.size, 0, none⟩ 1 1 [.slice A' (p - f) c'] (by rfl) rfl (World.news_of_block (heap_alloc_new wa (.cells #[.slice A' (p - f) c'] 43))) (by simp [Value.oneCell']) (by omega) (by unfold maxLen; omega) (by omega) (Nat.le_trans hQa.bs (ba (Below.refl wa.heap.size wa) (.cells #[.slice A' (p - f) c'] 43)).size) (wa.heap.size + 1) (by simp) ?_
          intro gg cap w9 hown9 hgrow hat hlt9
          have hne : (Value.slice X lev c1).ownBlock ≠ some bg := vown_ne hQa.row0 hKa (by decide)
          have hK9 : Blk w9 bg 64 #[vi f, vi p, vi q] := (hKa.alloc (.cells #[.slice A' (p - f) c'] 43)).grown hgrow (fun e => hne e.symm)
          have hS3 := pgS_of hK9
          have hB9 : Blk w9 bp 26 #[.slice X lev c1, .slice Y lev c2] := (hQa.blk.alloc (.cells #[.slice A' (p - f) c'] 43)).grown hgrow (fun e => by have := (hQa.row0.lt bp e.symm).1; omega)
          have c3a := hB9.cell 0
          have f3a := hB9.frozen 0
          obtain ⟨hQN, hEN⟩ := hQa.put0 hOw O2 hown9 hgrow hat
          have hKN := (hEN bg hKa.lt (by have := HBG.out; omega) hne).trans hKa
          have hS4 := pgS_of hKN
          have hHN := Lib.hid ((hEN gh (((show Blk w8 gh 3 ((HH.map vi).toArray) from HH8.out).drew.below hba).lt) (by have := HLH.out.1; omega) (fun e => by have := (hQa.row0.lt gh e).1; have := HLH.out.1; omega)).trans ((show Blk w8 gh 3 ((HH.map vi).toArray) from HH8.out).drew.below hba))
          have hRN := Lib.hid ((hEN w.heap.size (((show Blk w8 w.heap.size 26 #[.slice none 0 0, .slice none 0 0] from HK8.out).drew.below hba).lt) (by have := HLH.out.2; omega) (fun e => by have := (hQa.row0.lt w.heap.size e).1; have := HLH.out.2; omega)).trans ((show Blk w8 w.heap.size 26 #[.slice none 0 0, .slice none 0 0] from HK8.out).drew.below hba))
          have hGN : (w9.setCell ⟨bp, 0, none⟩ (.slice (some ⟨gg, 0, none⟩) (lev + 1) cap)).heap[gr]? = wa.heap[gr]? := hEN gr e1 (by have := HBP.out; have := HFR.out; omega) (fun e => by have := HXL.out gr e; have := HFR.out; omega)
          have hGL := Lib.hid (show gr < (w9.setCell ⟨bp, 0, none⟩ (.slice (some ⟨gg, 0, none⟩) (lev + 1) cap)).heap.size by have h7 := hgrow.size; simp at h7 ⊢; omega)
          have hBN := Lib.hid (bs (b := bp) (o := 0) ((ba hBa (.cells #[.slice A' (p - f) c'] 43)).grown hgrow (ba hBa (.cells #[.slice A' (p - f) c'] 43)).size (fun k e => by have := (hQa.row0.lt k e).1; have := HLH.out.2; omega)) (by have := HLH.out.2; omega) (.slice (some ⟨gg, 0, none⟩) (lev + 1) cap))
          have hTN := Lib.hid (HT2.out.kp (w' := w9.setCell ⟨bp, 0, none⟩ (.slice (some ⟨gg, 0, none⟩) (lev + 1) cap)) (fun a e => by cases e; exact hGN.trans e2))
          clear hown9 hgrow hat hlt9 hK9 hB9 hEN hGN hOw hOv O2
          refine hK9.out _ _ ?_ (fun hHeld => ?_)
          · exact hS3
          clear hK9 K9
          try simp only [Act.put, List.setIfInBounds_toArray, List.set_cons_zero, List.set_cons_succ]
          refine wpAnyH_take (i := 11) (oi := ⟨some 56, _, _, _, _, _⟩) (v := ?_) rfl (by kernel_rfl) (by kernel_rfl) (by kernel_rfl) (fun _ _ _ h => h) (Or.inl ⟨by rfl, ?_⟩) (by assumption) ?_
          rotate_left
          · (intro w9 hSw; (try dsimp only at hSw); go_simp; try with_reducible rfl)
          try simp only [Act.put, List.setIfInBounds_toArray, List.set_cons_zero, List.set_cons_succ]
          refine wpAnyH_ready (rs := [12]) (by kernel_rfl) (by simp) ?_
          refine AllReadyH.cons (o := ⟨none, _, _, _, _, _⟩) rfl (fun K9 hK9 => ?_) AllReadyH.nil
          go_simp
          refine hK9.out _ _ ?_ (fun hHeld => ?_)
          · exact hS4
          clear hK9 K9
          try simp only [Act.put]
          refine wpAnyH_done (by kernel_rfl) ?_ _
          have HQ9 : Hid (PQ (w9.setCell ⟨bp, 0, none⟩ (.slice (some ⟨gg, 0, none⟩) (lev + 1) cap)) (bp + 1) bp (some ⟨gg, 0, none⟩) (lev + 1) cap (Vs ++ [.slice A' (p - f) c']) Y lev c2 Us (GB (lev + 1)) (GF lev)) := Lib.hid (by rw [HGMl.out]; exact hQN)
          clear hQN hS1 hS2 hS3 hS4 hQa hKa hBa hba c1a c2a c3a f3a e1 e2 hne
          go_wp2_with fail
          generalize (w9.setCell ⟨bp, 0, none⟩ (.slice (some ⟨gg, 0, none⟩) (lev + 1) cap)) = w10 at hKN hRN hHN hBN hTN hGL HQ9 ⊢
          have c08 := HQ9.out.blk.cell 1
          simp only [List.getElem?_toArray, List.getElem?_cons_zero, List.getElem?_cons_succ] at c08
          have hS0 := pgS_of hKN
          refine wp_region_held_drew (S := fun W => Blk W bg 64 #[vi f, vi p, vi q] ∧ W.cell? ⟨bg, 0, none⟩ = some (vi f) ∧ W.cell? ⟨bg, 1, none⟩ = some (vi p) ∧ W.cell? ⟨bg, 2, none⟩ = some (vi q)) (by kernel_rfl) (pgS_of hKN) (fun hHeld => ?_)
          refine wpAnyH_take (i := 0) (oi := ⟨some 57, _, _, _, _, _⟩) (v := ?_) rfl (by kernel_rfl) (by kernel_rfl) (by kernel_rfl) (fun _ _ _ h => h) (Or.inl ⟨by rfl, ?_⟩) (by assumption) ?_
          rotate_left
          · (intro w9 hSw; (try dsimp only at hSw); go_simp; try with_reducible rfl)
          try simp only [Act.put, List.setIfInBounds_toArray, List.set_cons_zero, List.set_cons_succ]
          refine wpAnyH_take (i := 2) (oi := ⟨some 59, _, _, _, _, _⟩) (v := ?_) rfl (by kernel_rfl) (by kernel_rfl) (by kernel_rfl) (fun _ _ _ h => h) (Or.inl ⟨by rfl, ?_⟩) (by assumption) ?_
          rotate_left
          · (intro w9 hSw; (try dsimp only at hSw); go_simp; try with_reducible rfl)
          try simp only [Act.put, List.setIfInBounds_toArray, List.set_cons_zero, List.set_cons_succ]
          refine wpAnyH_take (i := 3) (oi := ⟨some 60, _, _, _, _, _⟩) (v := ?_) rfl (by kernel_rfl) (by kernel_rfl) (by kernel_rfl) (fun _ _ _ h => h) (Or.inl ⟨by rfl, ?_⟩) (by assumption) ?_
          rotate_left
          · (intro w9 hSw; (try dsimp only at hSw); go_simp; try with_reducible rfl)
          try simp only [Act.put, List.setIfInBounds_toArray, List.set_cons_zero, List.set_cons_succ]
          refine wpAnyH_take (i := 4) (oi := ⟨some 61, _, _, _, _, _⟩) (v := ?_) rfl (by kernel_rfl) (by kernel_rfl) (by kernel_rfl) (fun _ _ _ h => h) (Or.inl ⟨by rfl, ?_⟩) (by assumption) ?_
          rotate_left
          · (intro w9 hSw; (try dsimp only at hSw); go_simp; try with_reducible rfl)
          try simp only [Act.put, List.setIfInBounds_toArray, List.set_cons_zero, List.set_cons_succ]
          refine wpAnyH_take (i := 5) (oi := ⟨some 62, _, _, _, _, _⟩) (v := .int .i64 ((p : Int) + 1)) rfl (by kernel_rfl) (by kernel_rfl) (by kernel_rfl) (fun _ _ _ h => h) (Or.inl ⟨by rfl, ?_⟩) (by assumption) ?_
          · (intro w9 hSw; (try dsimp only at hSw); go_simp; try with_reducible rfl)
          try simp only [Act.put, List.setIfInBounds_toArray, List.set_cons_zero, List.set_cons_succ]
          refine wpAnyH_take (i := 6) (oi := ⟨some 63, _, _, _, _, _⟩) (v := ?_) rfl (by kernel_rfl) (by kernel_rfl) (by kernel_rfl) (fun _ _ _ h => h) (Or.inl ⟨by rfl, ?_⟩) (by assumption) ?_
          rotate_left
          · (intro w9 hSw; (try dsimp only at hSw); go_simp; try with_reducible rfl)
          try simp only [Act.put, List.setIfInBounds_toArray, List.set_cons_zero, List.set_cons_succ]
          refine wpAnyH_take (i := 7) (oi := ⟨some 64, _, _, _, _, _⟩) (v := ?_) rfl (by kernel_rfl) (by kernel_rfl) (by kernel_rfl) (fun _ _ _ h => h) (Or.inl ⟨by rfl, ?_⟩) (by assumption) ?_
          rotate_left
          · (intro w9 hSw; (try dsimp only at hSw); go_simp; try with_reducible rfl)
          try simp only [Act.put, List.setIfInBounds_toArray, List.set_cons_zero, List.set_cons_succ]
          refine wpAnyH_take (i := 8) (oi := ⟨some 65, _, _, _, _, _⟩) (v := .slice (some ⟨gr, o2, none⟩) (q - (p + 1)) (d - (p + 1))) rfl (by kernel_rfl) (by kernel_rfl) (by kernel_rfl) (fun _ _ _ h => h) (Or.inl ⟨by rfl, ?_⟩) (by assumption) ?_
          · (intro w9 hSw; (try dsimp only at hSw); go_simp; try with_reducible rfl)
          try simp only [Act.put, List.setIfInBounds_toArray, List.set_cons_zero, List.set_cons_succ]
          refine wpAnyH_ready (rs := [1, 9]) (by kernel_rfl) (by simp) ?_
          refine AllReadyH.cons (o := ⟨some 58, _, _, _, _, _⟩) rfl (fun K9 hK9 => ?_) ?_
          · skip
            go_simp
            refine hK9.out _ _ ?_ (fun hHeld => ?_)
            · first | exact hS0 | exact hS1 | exact hS2
            clear hK9 K9
            try simp only [Act.put, List.setIfInBounds_toArray, List.set_cons_zero, List.set_cons_succ]
            refine wpAnyH_ready (rs := [9]) (by kernel_rfl) (by simp) ?_
            refine AllReadyH.cons (o := ⟨some 66, _, _, _, _, _⟩) rfl (fun K9 hK9 => ?_) AllReadyH.nil
            go_simp; go_at_call 31
            refine (qclone_any (some ⟨gr, o2, none⟩) (d - (p + 1)) (q - (p + 1)) P2 w10.drew hTN.out hPA (fun h => by cases h) (by omega)).mono ?_
            rintro e wb ⟨B', d', rfl, hOv, hba⟩
            have hKa := (show Blk w10.drew bg 64 #[vi f, vi p, vi q] from hKN).below hba
            have hS1 := pgS_of hKa
            have hQa := (show PQ w10.drew (bp + 1) bp (some ⟨gg, 0, none⟩) (lev + 1) cap (Vs ++ [.slice A' (p - f) c']) Y lev c2 Us (GB (lev + 1)) (GF lev) from HQ9.out.drew).below hba
            have hOw : wb.ownsRow (bp + 1) 9 1 (.slice B' (q - (p + 1)) d') P2.length (P2.map sv) := by rw [hPA]; exact yown_base hOv (show bp + 1 ≤ w10.heap.size from HQ9.out.bs)
            have hBa := bt (show Below w.heap.size w w10.drew from hBN.out.drew) hba
            have c1a := hQa.blk.cell 1
            have e1 : gr < wb.heap.size := Nat.lt_of_lt_of_le hGL.out hba.size
            have e2 : wb.heap[gr]? = w10.heap[gr]? := hba.block gr hGL.out
            refine hK9.out _ _ ?_ (fun hHeld => ?_)
            · exact hS1
            clear hK9 K9
            try simp only [Act.put, List.setIfInBounds_toArray, List.set_cons_zero, List.set_cons_succ]
            refine wpAnyH_ready (rs := [10]) (by kernel_rfl) (by simp) ?_
            refine AllReadyH.cons (o := ⟨some 67, _, _, _, _, _⟩) rfl (fun K9 hK9 => ?_) AllReadyH.nil
            go_simp
            have hS2 := pgS_of (hKa.alloc (.cells #[.slice B' (q - (p + 1)) d'] 43))
            have c2a := (hQa.blk.alloc (.cells #[.slice B' (q - (p + 1)) d'] 43)).cell 1
            have O2 := own_later hQa.row1 (ba (Below.refl wb.heap.size wb) (.cells #[.slice B' (q - (p + 1)) d'] 43))
            refine hK9.out _ _ ?_ (fun hHeld => ?_)
            · exact hS2
            clear hK9 K9
            try simp only [Act.put, List.setIfInBounds_toArray, List.set_cons_zero, List.set_cons_succ]
            refine wpAnyH_ready (rs := [11]) (by kernel_rfl) (by simp) ?_
            refine AllReadyH.cons (o := ⟨some 68, _, _, _, _, _⟩) rfl (fun K9 hK9 => ?_) AllReadyH.nil
            refine step_append_lies _ (by rfl) _ _ _ (by rfl) (bp + 1) 43 li (.slice none 0 0) 1 24 Tryz.underlying24 hli jz0 jz1 jz2 rfl (by omega) (.slice Y lev c2) lev Us (by rfl) O2 ⟨wb.heap.size, 0, none⟩ 1 1 [.slice B' (q - (p + 1)) d'] (by rfl) rfl (World.news_of_block (heap_alloc_new wb (.cells #[.slice B' (q - (p + 1)) d'] 43))) (by simp [Value.oneCell']) (by omega) (by unfold maxLen; omega) (by omega) (Nat.le_trans hQa.bs (ba (Below.refl wb.heap.size wb) (.cells #[.slice B' (q - (p + 1)) d'] 43)).size) (wb.heap.size + 1) (by simp) ?_
            intro g2 cap2 w11 hown9 hgrow hat hlt9
            have hne : (Value.slice Y lev c2).ownBlock ≠ some bg := vown_ne hQa.row1 hKa (by decide)
            have hK9 : Blk w11 bg 64 #[vi f, vi p, vi q] := (hKa.alloc (.cells #[.slice B' (q - (p + 1)) d'] 43)).grown hgrow (fun e => hne e.symm)
            have hS3 := pgS_of hK9
            have hB9 : Blk w11 bp 26 #[.slice (some ⟨gg, 0, none⟩) (lev + 1) cap, .slice Y lev c2] := (hQa.blk.alloc (.cells #[.slice B' (q - (p + 1)) d'] 43)).grown hgrow (fun e => by have := (hQa.row1.lt bp e.symm).1; omega)
            have c3a := hB9.cell 1
            have f3a := hB9.frozen 1
            obtain ⟨hQN, hEN⟩ := hQa.put1 hOw O2 hown9 hgrow hat
            have hKN2 := (hEN bg hKa.lt (by have := HBG.out; omega) hne).trans hKa
            have hS4 := pgS_of hKN2
            have hHN2 := Lib.hid ((hEN gh (((show Blk w10 gh 3 ((HH.map vi).toArray) from hHN.out).drew.below hba).lt) (by have := HLH.out.1; omega) (fun e => by have := (hQa.row1.lt gh e).1; have := HLH.out.1; omega)).trans ((show Blk w10 gh 3 ((HH.map vi).toArray) from hHN.out).drew.below hba))
            have hRN2 := Lib.hid ((hEN w.heap.size (((show Blk w10 w.heap.size 26 #[.slice none 0 0, .slice none 0 0] from hRN.out).drew.below hba).lt) (by have := HLH.out.2; omega) (fun e => by have := (hQa.row1.lt w.heap.size e).1; have := HLH.out.2; omega)).trans ((show Blk w10 w.heap.size 26 #[.slice none 0 0, .slice none 0 0] from hRN.out).drew.below hba))
            have hGN : (w11.setCell ⟨bp, 1, none⟩ (.slice (some ⟨g2, 0, none⟩) (lev + 1) cap2)).heap[gr]? = wb.heap[gr]? := hEN gr e1 (by have := HBP.out; have := HFR.out; omega) (fun e => by have := HYL.out gr e; have := HFR.out; omega)
            have hGL2 := Lib.hid (show gr < (w11.setCell ⟨bp, 1, none⟩ (.slice (some ⟨g2, 0, none⟩) (lev + 1) cap2)).heap.size by have h7 := hgrow.size; simp at h7 ⊢; omega)
            have hBN2 := Lib.hid (bs (b := bp) (o := 1) ((ba hBa (.cells #[.slice B' (q - (p + 1)) d'] 43)).grown hgrow (ba hBa (.cells #[.slice B' (q - (p + 1)) d'] 43)).size (fun k e => by have := (hQa.row1.lt k e).1; have := HLH.out.2; omega)) (by have := HLH.out.2; omega) (.slice (some ⟨g2, 0, none⟩) (lev + 1) cap2))
            clear hown9 hgrow hat hlt9 hK9 hB9 hEN hGN hOw hOv O2
            refine hK9.out _ _ ?_ (fun hHeld => ?_)
            · exact hS3
            clear hK9 K9
            try simp only [Act.put, List.setIfInBounds_toArray, List.set_cons_zero, List.set_cons_succ]
            refine wpAnyH_take (i := 12) (oi := ⟨some 69, _, _, _, _, _⟩) (v := ?_) rfl (by kernel_rfl) (by kernel_rfl) (by kernel_rfl) (fun _ _ _ h => h) (Or.inl ⟨by rfl, ?_⟩) (by assumption) ?_
            rotate_left
            · (intro w9 hSw; (try dsimp only at hSw); go_simp; try with_reducible rfl)
            try simp only [Act.put, List.setIfInBounds_toArray, List.set_cons_zero, List.set_cons_succ]
            refine wpAnyH_ready (rs := [13]) (by kernel_rfl) (by simp) ?_
            refine AllReadyH.cons (o := ⟨none, _, _, _, _, _⟩) rfl (fun K9 hK9 => ?_) AllReadyH.nil
            go_simp
            refine hK9.out _ _ ?_ (fun hHeld => ?_)
            · exact hS4
            clear hK9 K9
            try simp only [Act.put]
            refine wpAnyH_done (by kernel_rfl) ?_ _
            have HQN : Hid (PQ (w11.setCell ⟨bp, 1, none⟩ (.slice (some ⟨g2, 0, none⟩) (lev + 1) cap2)) (bp + 1) bp (some ⟨gg, 0, none⟩) (lev + 1) cap (Vs ++ [.slice A' (p - f) c']) (some ⟨g2, 0, none⟩) (lev + 1) cap2 (Us ++ [.slice B' (q - (p + 1)) d']) (GB (lev + 1)) (GF (lev + 1))) := Lib.hid (by rw [HFMl.out]; exact hQN)
            clear hQN hS1 hS2 hS3 hS4 hQa hKa hBa hba c1a c2a c3a f3a e1 e2 hne
            go_wp2_with fail
            exact ⟨⟨lev + 1, _, _, cap, cap2, _, _, by omega, by go_num, HQN, hRN2, hHN2, hBN2⟩, by simp [intOf]; omega⟩
          refine AllReadyH.cons (o := ⟨some 66, _, _, _, _, _⟩) rfl (fun K9 hK9 => ?_) AllReadyH.nil
          · skip
            go_simp; go_at_call 31
            refine (qclone_any (some ⟨gr, o2, none⟩) (d - (p + 1)) (q - (p + 1)) P2 w10.drew hTN.out hPA (fun h => by cases h) (by omega)).mono ?_
            rintro e wb ⟨B', d', rfl, hOv, hba⟩
            have hKa := (show Blk w10.drew bg 64 #[vi f, vi p, vi q] from hKN).below hba
            have hS1 := pgS_of hKa
            have hQa := (show PQ w10.drew (bp + 1) bp (some ⟨gg, 0, none⟩) (lev + 1) cap (Vs ++ [.slice A' (p - f) c']) Y lev c2 Us (GB (lev + 1)) (GF lev) from HQ9.out.drew).below hba
            have hOw : wb.ownsRow (bp + 1) 9 1 (.slice B' (q - (p + 1)) d') P2.length (P2.map sv) := by rw [hPA]; exact yown_base hOv (show bp + 1 ≤ w10.heap.size from HQ9.out.bs)
            have hBa := bt (show Below w.heap.size w w10.drew from hBN.out.drew) hba
            have c1a := hQa.blk.cell 1
            have e1 : gr < wb.heap.size := Nat.lt_of_lt_of_le hGL.out hba.size
            have e2 : wb.heap[gr]? = w10.heap[gr]? := hba.block gr hGL.out
            refine hK9.out _ _ ?_ (fun hHeld => ?_)
            · exact hS1
            clear hK9 K9
            try simp only [Act.put, List.setIfInBounds_toArray, List.set_cons_zero, List.set_cons_succ]
            refine wpAnyH_ready (rs := [1, 10]) (by kernel_rfl) (by simp) ?_
            refine AllReadyH.cons (o := ⟨some 58, _, _, _, _, _⟩) rfl (fun K9 hK9 => ?_) ?_
            · skip
              go_simp
              refine hK9.out _ _ ?_ (fun hHeld => ?_)
              · first | exact hS0 | exact hS1 | exact hS2
              clear hK9 K9
              try simp only [Act.put, List.setIfInBounds_toArray, List.set_cons_zero, List.set_cons_succ]
              refine wpAnyH_ready (rs := [10]) (by kernel_rfl) (by simp) ?_
              refine AllReadyH.cons (o := ⟨some 67, _, _, _, _, _⟩) rfl (fun K9 hK9 => ?_) AllReadyH.nil
              go_simp
              have hS2 := pgS_of (hKa.alloc (.cells #[.slice B' (q - (p + 1)) d'] 43))
              have c2a := (hQa.blk.alloc (.cells #[.slice B' (q - (p + 1)) d'] 43)).cell 1
              have O2 := own_later hQa.row1 (ba (Below.refl wb.heap.size wb) (.cells #[.slice B' (q - (p + 1)) d'] 43))
              refine hK9.out _ _ ?_ (fun hHeld => ?_)
              · exact hS2
              clear hK9 K9
              try simp only [Act.put, List.setIfInBounds_toArray, List.set_cons_zero, List.set_cons_succ]
              refine wpAnyH_ready (rs := [11]) (by kernel_rfl) (by simp) ?_
              refine AllReadyH.cons (o := ⟨some 68, _, _, _, _, _⟩) rfl (fun K9 hK9 => ?_) AllReadyH.nil
              refine step_append_lies _ (by rfl) _ _ _ (by rfl) (bp + 1) 43 li (.slice none 0 0) 1 24 Tryz.underlying24 hli jz0 jz1 jz2 rfl (by omega) (.slice Y lev c2) lev Us (by rfl) O2 ⟨wb.heap.size, 0, none⟩ 1 1 [.slice B' (q - (p + 1)) d'] (by rfl) rfl (World.news_of_block (heap_alloc_new wb (.cells #[.slice B' (q - (p + 1)) d'] 43))) (by simp [Value.oneCell']) (by omega) (by unfold maxLen; omega) (by omega) (Nat.le_trans hQa.bs (ba (Below.refl wb.heap.size wb) (.cells #[.slice B' (q - (p + 1)) d'] 43)).size) (wb.heap.size + 1) (by simp) ?_
              intro g2 cap2 w11 hown9 hgrow hat hlt9
              have hne : (Value.slice Y lev c2).ownBlock ≠ some bg := vown_ne hQa.row1 hKa (by decide)
              have hK9 : Blk w11 bg 64 #[vi f, vi p, vi q] := (hKa.alloc (.cells #[.slice B' (q - (p + 1)) d'] 43)).grown hgrow (fun e => hne e.symm)
              have hS3 := pgS_of hK9
              have hB9 : Blk w11 bp 26 #[.slice (some ⟨gg, 0, none⟩) (lev + 1) cap, .slice Y lev c2] := (hQa.blk.alloc (.cells #[.slice B' (q - (p + 1)) d'] 43)).grown hgrow (fun e => by have := (hQa.row1.lt bp e.symm).1; omega)
              have c3a := hB9.cell 1
              have f3a := hB9.frozen 1
              obtain ⟨hQN, hEN⟩ := hQa.put1 hOw O2 hown9 hgrow hat
              have hKN2 := (hEN bg hKa.lt (by have := HBG.out; omega) hne).trans hKa
              have hS4 := pgS_of hKN2
              have hHN2 := Lib.hid ((hEN gh (((show Blk w10 gh 3 ((HH.map vi).toArray) from hHN.out).drew.below hba).lt) (by have := HLH.out.1; omega) (fun e => by have := (hQa.row1.lt gh e).1; have := HLH.out.1; omega)).trans ((show Blk w10 gh 3 ((HH.map vi).toArray) from hHN.out).drew.below hba))
              have hRN2 := Lib.hid ((hEN w.heap.size (((show Blk w10 w.heap.size 26 #[.slice none 0 0, .slice none 0 0] from hRN.out).drew.below hba).lt) (by have := HLH.out.2; omega) (fun e => by have := (hQa.row1.lt w.heap.size e).1; have := HLH.out.2; omega)).trans ((show Blk w10 w.heap.size 26 #[.slice none 0 0, .slice none 0 0] from hRN.out).drew.below hba))
              have hGN : (w11.setCell ⟨bp, 1, none⟩ (.slice (some ⟨g2, 0, none⟩) (lev + 1) cap2)).heap[gr]? = wb.heap[gr]? := hEN gr e1 (by have := HBP.out; have := HFR.out; omega) (fun e => by have := HYL.out gr e; have := HFR.out; omega)
              have hGL2 := Lib.hid (show gr < (w11.setCell ⟨bp, 1, none⟩ (.slice (some ⟨g2, 0, none⟩) (lev + 1) cap2)).heap.size by have h7 := hgrow.size; simp at h7 ⊢; omega)
              have hBN2 := Lib.hid (bs (b := bp) (o := 1) ((ba hBa (.cells #[.slice B' (q - (p + 1)) d'] 43)).grown hgrow (ba hBa (.cells #[.slice B' (q - (p + 1)) d'] 43)).size (fun k e => by have := (hQa.row1.lt k e).1; have := HLH.out.2; omega)) (by have := HLH.out.2; omega) (.slice (some ⟨g2, 0, none⟩) (lev + 1) cap2))
              clear hown9 hgrow hat hlt9 hK9 hB9 hEN hGN hOw hOv O2
              refine hK9.out _ _ ?_ (fun hHeld => ?_)
              · exact hS3
              clear hK9 K9
              try simp only [Act.put, List.setIfInBounds_toArray, List.set_cons_zero, List.set_cons_succ]
              refine wpAnyH_take (i := 12) (oi := ⟨some 69, _, _, _, _, _⟩) (v := ?_) rfl (by kernel_rfl) (by kernel_rfl) (by kernel_rfl) (fun _ _ _ h => h) (Or.inl ⟨by rfl, ?_⟩) (by assumption) ?_
              rotate_left
              · (intro w9 hSw; (try dsimp only at hSw); go_simp; try with_reducible rfl)
              try simp only [Act.put, List.setIfInBounds_toArray, List.set_cons_zero, List.set_cons_succ]
              refine wpAnyH_ready (rs := [13]) (by kernel_rfl) (by simp) ?_
              refine AllReadyH.cons (o := ⟨none, _, _, _, _, _⟩) rfl (fun K9 hK9 => ?_) AllReadyH.nil
              go_simp
              refine hK9.out _ _ ?_ (fun hHeld => ?_)
              · exact hS4
              clear hK9 K9
              try simp only [Act.put]
              refine wpAnyH_done (by kernel_rfl) ?_ _
              have HQN : Hid (PQ (w11.setCell ⟨bp, 1, none⟩ (.slice (some ⟨g2, 0, none⟩) (lev + 1) cap2)) (bp + 1) bp (some ⟨gg, 0, none⟩) (lev + 1) cap (Vs ++ [.slice A' (p - f) c']) (some ⟨g2, 0, none⟩) (lev + 1) cap2 (Us ++ [.slice B' (q - (p + 1)) d']) (GB (lev + 1)) (GF (lev + 1))) := Lib.hid (by rw [HFMl.out]; exact hQN)
              clear hQN hS1 hS2 hS3 hS4 hQa hKa hBa hba c1a c2a c3a f3a e1 e2 hne
              go_wp2_with fail
              exact ⟨⟨lev + 1, _, _, cap, cap2, _, _, by omega, by go_num, HQN, hRN2, hHN2, hBN2⟩, by simp [intOf]; omega⟩
            refine AllReadyH.cons (o := ⟨some 67, _, _, _, _, _⟩) rfl (fun K9 hK9 => ?_) AllReadyH.nil
            · skip
              go_simp
              have hS2 := pgS_of (hKa.alloc (.cells #[.slice B' (q - (p + 1)) d'] 43))
              have c2a := (hQa.blk.alloc (.cells #[.slice B' (q - (p + 1)) d'] 43)).cell 1
              have O2 := own_later hQa.row1 (ba (Below.refl wb.heap.size wb) (.cells #[.slice B' (q - (p + 1)) d'] 43))
              refine hK9.out _ _ ?_ (fun hHeld => ?_)
              · exact hS2
              clear hK9 K9
              try simp only [Act.put, List.setIfInBounds_toArray, List.set_cons_zero, List.set_cons_succ]
              refine wpAnyH_ready (rs := [1]) (by kernel_rfl) (by simp) ?_
              refine AllReadyH.cons (o := ⟨some 58, _, _, _, _, _⟩) rfl (fun K9 hK9 => ?_) AllReadyH.nil
              go_simp
              refine hK9.out _ _ ?_ (fun hHeld => ?_)
              · first | exact hS0 | exact hS1 | exact hS2
              clear hK9 K9
              try simp only [Act.put, List.setIfInBounds_toArray, List.set_cons_zero, List.set_cons_succ]
              refine wpAnyH_ready (rs := [11]) (by kernel_rfl) (by simp) ?_
              refine AllReadyH.cons (o := ⟨some 68, _, _, _, _, _⟩) rfl (fun K9 hK9 => ?_) AllReadyH.nil
              refine step_append_lies _ (by rfl) _ _ _ (by rfl) (bp + 1) 43 li (.slice none 0 0) 1 24 Tryz.underlying24 hli jz0 jz1 jz2 rfl (by omega) (.slice Y lev c2) lev Us (by rfl) O2 ⟨wb.heap.size, 0, none⟩ 1 1 [.slice B' (q - (p + 1)) d'] (by rfl) rfl (World.news_of_block (heap_alloc_new wb (.cells #[.slice B' (q - (p + 1)) d'] 43))) (by simp [Value.oneCell']) (by omega) (by unfold maxLen; omega) (by omega) (Nat.le_trans hQa.bs (ba (Below.refl wb.heap.size wb) (.cells #[.slice B' (q - (p + 1)) d'] 43)).size) (wb.heap.size + 1) (by simp) ?_
              intro g2 cap2 w11 hown9 hgrow hat hlt9
              have hne : (Value.slice Y lev c2).ownBlock ≠ some bg := vown_ne hQa.row1 hKa (by decide)
              have hK9 : Blk w11 bg 64 #[vi f, vi p, vi q] := (hKa.alloc (.cells #[.slice B' (q - (p + 1)) d'] 43)).grown hgrow (fun e => hne e.symm)
              have hS3 := pgS_of hK9
              have hB9 : Blk w11 bp 26 #[.slice (some ⟨gg, 0, none⟩) (lev + 1) cap, .slice Y lev c2] := (hQa.blk.alloc (.cells #[.slice B' (q - (p + 1)) d'] 43)).grown hgrow (fun e => by have := (hQa.row1.lt bp e.symm).1; omega)
              have c3a := hB9.cell 1
              have f3a := hB9.frozen 1
              obtain ⟨hQN, hEN⟩ := hQa.put1 hOw O2 hown9 hgrow hat
              have hKN2 := (hEN bg hKa.lt (by have := HBG.out; omega) hne).trans hKa
              have hS4 := pgS_of hKN2
              have hHN2 := Lib.hid ((hEN gh (((show Blk w10 gh 3 ((HH.map vi).toArray) from hHN.out).drew.below hba).lt) (by have := HLH.out.1; omega) (fun e => by have := (hQa.row1.lt gh e).1; have := HLH.out.1; omega)).trans ((show Blk w10 gh 3 ((HH.map vi).toArray) from hHN.out).drew.below hba))
              have hRN2 := Lib.hid ((hEN w.heap.size (((show Blk w10 w.heap.size 26 #[.slice none 0 0, .slice none 0 0] from hRN.out).drew.below hba).lt) (by have := HLH.out.2; omega) (fun e => by have := (hQa.row1.lt w.heap.size e).1; have := HLH.out.2; omega)).trans ((show Blk w10 w.heap.size 26 #[.slice none 0 0, .slice none 0 0] from hRN.out).drew.below hba))
              have hGN : (w11.setCell ⟨bp, 1, none⟩ (.slice (some ⟨g2, 0, none⟩) (lev + 1) cap2)).heap[gr]? = wb.heap[gr]? := hEN gr e1 (by have := HBP.out; have := HFR.out; omega) (fun e => by have := HYL.out gr e; have := HFR.out; omega)
              have hGL2 := Lib.hid (show gr < (w11.setCell ⟨bp, 1, none⟩ (.slice (some ⟨g2, 0, none⟩) (lev + 1) cap2)).heap.size by have h7 := hgrow.size; simp at h7 ⊢; omega)
              have hBN2 := Lib.hid (bs (b := bp) (o := 1) ((ba hBa (.cells #[.slice B' (q - (p + 1)) d'] 43)).grown hgrow (ba hBa (.cells #[.slice B' (q - (p + 1)) d'] 43)).size (fun k e => by have := (hQa.row1.lt k e).1; have := HLH.out.2; omega)) (by have := HLH.out.2; omega) (.slice (some ⟨g2, 0, none⟩) (lev + 1) cap2))
              clear hown9 hgrow hat hlt9 hK9 hB9 hEN hGN hOw hOv O2
              refine hK9.out _ _ ?_ (fun hHeld => ?_)
              · exact hS3
              clear hK9 K9
              try simp only [Act.put, List.setIfInBounds_toArray, List.set_cons_zero, List.set_cons_succ]
              refine wpAnyH_take (i := 12) (oi := ⟨some 69, _, _, _, _, _⟩) (v := ?_) rfl (by kernel_rfl) (by kernel_rfl) (by kernel_rfl) (fun _ _ _ h => h) (Or.inl ⟨by rfl, ?_⟩) (by assumption) ?_
              rotate_left
              · (intro w9 hSw; (try dsimp only at hSw); go_simp; try with_reducible rfl)
              try simp only [Act.put, List.setIfInBounds_toArray, List.set_cons_zero, List.set_cons_succ]
              refine wpAnyH_ready (rs := [13]) (by kernel_rfl) (by simp) ?_
              refine AllReadyH.cons (o := ⟨none, _, _, _, _, _⟩) rfl (fun K9 hK9 => ?_) AllReadyH.nil
              go_simp
              refine hK9.out _ _ ?_ (fun hHeld => ?_)
              · exact hS4
              clear hK9 K9
              try simp only [Act.put]
              refine wpAnyH_done (by kernel_rfl) ?_ _
              have HQN : Hid (PQ (w11.setCell ⟨bp, 1, none⟩ (.slice (some ⟨g2, 0, none⟩) (lev + 1) cap2)) (bp + 1) bp (some ⟨gg, 0, none⟩) (lev + 1) cap (Vs ++ [.slice A' (p - f) c']) (some ⟨g2, 0, none⟩) (lev + 1) cap2 (Us ++ [.slice B' (q - (p + 1)) d']) (GB (lev + 1)) (GF (lev + 1))) := Lib.hid (by rw [HFMl.out]; exact hQN)
              clear hQN hS1 hS2 hS3 hS4 hQa hKa hBa hba c1a c2a c3a f3a e1 e2 hne
              go_wp2_with fail
              exact ⟨⟨lev + 1, _, _, cap, cap2, _, _, by omega, by go_num, HQN, hRN2, hHN2, hBN2⟩, by simp [intOf]; omega⟩
      -- end 14
    · obtain rfl : lev = 8 := by omega
      have k0 := HQ.out.blk.cell 0
      have k1 := HQ.out.blk.cell 1
      have r0 := HK.out.cell 0
      have r1 := HK.out.cell 1
      have f0 := HK.out.frozen 0
      have f1 := HK.out.frozen 1
      simp only [List.getElem?_toArray, List.getElem?_cons_zero, List.getElem?_cons_succ] at k0 k1 r0 r1
      have K1 := HK.out.set_ 0 (.slice X 8 c1)
      have KK := Lib.hid (K1.set_ 1 (.slice Y 8 c2))
      have hlt1 : w.heap.size < bp + 1 := by have := HLH.out.2; omega
      have hne1 : w.heap.size ≠ bp := by have := HLH.out.2; omega
      have Q2 := (HQ.out.far (o := 0) (u := .slice X 8 c1) HK.out (by decide) hlt1 hne1).far (o := 1) (u := .slice Y 8 c2) K1 (by decide) hlt1 hne1
      have L1 := Lib.hid (Q2.read0 HG0.out.2.2.1)
      have L2 := Lib.hid (Q2.read1 HG0.out.2.2.2)
      have BB := Lib.hid (bs (b := w.heap.size) (o := 1) (bs (b := w.heap.size) (o := 0) HB.out (Nat.le_refl _) (.slice X 8 c1)) (Nat.le_refl _) (.slice Y 8 c2))
      clear Q2 K1 HQ HK HH1 HB
      go_wp2_with fail
      refine bodyPost_ret (pf_result rfl KK.out) rfl ?_
      exact ⟨X, c1, Y, c2, rfl, L1.out, L2.out, BB.out⟩
end Go.Proofs.YtjonhenllhnibaaGreatDoor
