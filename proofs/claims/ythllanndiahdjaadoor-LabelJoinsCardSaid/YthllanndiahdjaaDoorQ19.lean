/- Texts of this seat, one behind the other: YFirst, YRowR, YFew, YText. -/
import Derived.Deep.RegionHeld3
import Derived.Test.YthllanndiahdjaaDoorQ01
import Derived.Test.YthllanndiahdjaaDoorQ12
import Derived.Test.YthllanndiahdjaaDoorQ13
import Derived.Test.YthllanndiahdjaaDoorQ14
import Derived.Test.YthllanndiahdjaaDoorQ15
import Derived.Test.YthllanndiahdjaaDoorQ17
import Derived.Test.YthllanndiahdjaaDoorQ18
/- The contract of firstRow. -/
namespace Go.Proofs.YthllanndiahdjaaDoor
open Go.RowKit

set_option maxRecDepth 100000 in
set_option maxHeartbeats 8000000 in
theorem yfirst_any (k : List UInt8) (A : Option Addr) (n c : Nat) (Z : List ItL) (w : World) (hk : k.length ≤ 60000) (hA : IR w A Z) (hl : Z.length = n) (hn : n ≤ 64) (hx : ∀ x ∈ Z, x.1 < 18446744073709551616) (hs : ∀ x ∈ Z, x.2.length ≤ 64) (hT : VTab w) :
    Calls Tryd.prog 33 #[.string ⟨k.toArray⟩, .slice A n c] w fun e w' => ∃ X c' Y d', e = .returned (.agg #[.slice X (n + 1) c', .slice Y (n + 1) d']) ∧ n + 1 ≤ c' ∧ n + 1 ≤ d' ∧ SR w' X (yhead :: Z.map yleaf) ∧ VR vi w' Y (yht k Z) ∧ Below w.heap.size w w' := by
  obtain ⟨ti, hti, hz0, hz1, hz2⟩ := info_parts infoVI
  obtain ⟨si, hsi, jy0, jy1, jy2⟩ := info_parts infoS
  have e1 := imake_words n (by omega)
  have TS := Lib.hid (fun W => sum_any [1] W (by simp))
  have TL := Lib.hid (fun j W (hj : j < n) => ylf_any (Z.getD j (0, [])).1 (Z.getD j (0, [])).2 W (hs _ (ik_mem (by omega))) (hx _ (ik_mem (by omega))))
  have HR := Lib.hid (fun j W (hj : j < n) (hb : Below w.heap.size w W) => (hA.later hb) j (by omega))
  have HKl : Hid ((ikeys Z).length = n) := Lib.hid (by rw [ikeys_len, hl])
  have HKX : Hid (∀ j, j < n → (ikeys Z).getD j 0 = (Z.getD j (0, [])).1) := Lib.hid (fun j hj => ikeys_at Z j (by omega))
  have HKA : Hid (vfill (ikeys Z) n = ikeys Z) := Lib.hid (by have := vfill_all (ikeys Z); rwa [HKl.out] at this)
  have HKZ : Hid ((((vfill (ikeys Z) 0).map vu).toArray) = Array.replicate n (vu 0)) := Lib.hid (by rw [vfill_zero, HKl.out, List.map_replicate, List.toArray_replicate])
  have HXl : ∀ x ∈ ikeys Z, x < 18446744073709551616 := fun x hx2 => by
    simp only [ikeys, List.mem_map] at hx2
    obtain ⟨y, hy, rfl⟩ := hx2
    exact hx y hy
  have TH := Lib.hid (fun B W (hB : VR vu W B (ikeys Z)) (hW : Below w.heap.size w W) => vheights_any k B n n (ikeys Z) W hk hB HKl.out HXl (by omega) (hT.later hW))
  have HHl : Hid ((hsL k (ikeys Z)).length = n) := Lib.hid (by rw [hsL_len, HKl.out])
  have HHT : Hid (yht k Z = 9 :: hsL k (ikeys Z)) := Lib.hid rfl
  have HDl : Hid ((Z.map yleaf).length = n) := Lib.hid (by rw [List.length_map, hl])
  have HDT : Hid (∀ j, j < n → ((Z.map yleaf).take (j + 1)).map sv = ((Z.map yleaf).take j).map sv ++ [sv (yleaf ((Z.getD j (0, [])).1, (Z.getD j (0, [])).2))]) := Lib.hid fun j hj => by
    rw [List.take_add_one, List.map_append]
    have : j < Z.length := by omega
    simp [List.getD, this]
  have HD9 : Hid (hsumL [1] = yhead) := Lib.hid rfl
  rw [HD9.out] at TS
  rw [HHT.out]
  clear hA hl hx hs hT hk HXl HHT HD9
  generalize Z.map yleaf = D at *
  generalize hsL k (ikeys Z) = HH at *
  generalize ikeys Z = K at *
  generalize yhead = y9 at *
  have hk0 := Blk.new w 60 #[.slice none 0 0, .slice none 0 0]
  have hb0 := ba (Below.refl w.heap.size w) (.cells #[.slice none 0 0, .slice none 0 0] 60)
  go_enter Tryd.func33, Tryd.ntmps33
  go_wp2_with fail
  refine (TS.out _).mono ?_
  rintro e w1 ⟨rfl, hb1⟩
  have hz1' := hb1.size
  rw [World.size_alloc] at hz1'
  have hk1 := (hk0.below hb1).alloc (.cells #[sv y9] 9)
  have hb1' := ba (bt hb0 hb1) (.cells #[sv y9] 9)
  have hw1 : (w1.alloc (.cells #[sv y9] 9)).ownsRow (w.heap.size + 1) 9 1 (.slice (some ⟨w1.heap.size, 0, none⟩) 1 1) 1 [sv y9] := yown_one (Blk.new w1 _ _) (by omega)
  go_upto_region 3 with fail
  have HG0 : Blk ((w1.alloc (.cells #[sv y9] 9)).alloc (.cells (Array.replicate n (vu 0)) 22)) (w1.heap.size + 1) 22 (((vfill K 0).map vu).toArray) := by rw [HKZ.out]; exact Blk.newAt (by simp) _ _
  have hw2 := hw1.alloc (.cells (Array.replicate n (vu 0)) 22)
  have hk2 := hk1.alloc (.cells (Array.replicate n (vu 0)) 22)
  have hb2 := ba hb1' (.cells (Array.replicate n (vu 0)) 22)
  obtain ⟨gN, hgN⟩ : ∃ gN, w1.heap.size + 1 = gN := ⟨_, rfl⟩
  rw [hgN] at HG0
  have HGN : Hid (w.heap.size + 1 < gN) := Lib.hid (by omega)
  generalize (w1.alloc (.cells #[sv y9] 9)).alloc (.cells (Array.replicate n (vu 0)) 22) = w2 at HG0 hw2 hk2 hb2 ⊢
  rw [hgN]
  have HG2 := Lib.hid HG0
  have HW2 : Hid (w2.ownsRow (w.heap.size + 1) 9 1 (.slice (some ⟨w1.heap.size, 0, none⟩) (0 + 1) 1) (0 + 1) (sv y9 :: ((D.take 0).map sv))) := Lib.hid hw2
  have HK2 := Lib.hid hk2
  have HB2 := Lib.hid hb2
  clear HG0 hw2 hk2 hb2 hgN hz1' hk1 hb1' hw1 hb1 hk0 hb0 e1 HKZ TS
  go_wp2_with fail
  go_loopw [5, 16] (fun ov iv wr => ∃ (j g5 c5 : Nat), j ≤ n ∧ iv = .int .i64 (j : Int) ∧ ov = .slice (some ⟨g5, 0, none⟩) (j + 1) c5 ∧ Hid (wr.ownsRow (w.heap.size + 1) 9 1 (.slice (some ⟨g5, 0, none⟩) (j + 1) c5) (j + 1) (sv y9 :: ((D.take j).map sv))) ∧ Hid (Blk wr gN 22 (((vfill K j).map vu).toArray)) ∧ Hid (Blk wr w.heap.size 60 #[.slice none 0 0, .slice none 0 0]) ∧ Hid (Below w.heap.size w wr)) (fun _ i _ => n - (intOf i).toNat)
  case atStart => exact ⟨0, w1.heap.size, 1, Nat.zero_le _, rfl, rfl, HW2, HG2, HK2, HB2⟩
  case round =>
    clear HW2 HG2 HK2 HB2
    obtain ⟨j, g5, c5, hj, rfl, rfl, HO, HG, HK, HB⟩ := hrel
    by_cases hlt : j < n
    · obtain ⟨g, off, rfl, c0, c1⟩ := HR.out j wr hlt HB.out
      have TLj := Lib.hid (fun W => TL.out j W hlt)
      have HTD := Lib.hid (HDT.out j hlt)
      have HX := Lib.hid (HKX.out j hlt)
      have HJK : Hid (j < K.length) := Lib.hid (by rw [HKl.out]; exact hlt)
      generalize Z.getD j (0, []) = x at c0 c1 TLj HTD HX
      obtain ⟨xk, xs⟩ := x
      simp only at c0 c1 TLj HTD HX
      generalize yleaf (xk, xs) = t at *
      have i0 : (0 : Int) ≤ (j : Int) := by omega
      have i1 : (j : Int) < (n : Int) := by omega
      have hbx := ba (Below.refl wr.heap.size wr) (.cells #[.int .u64 (xk : Int), sv xs] 24)
      have hkx := Blk.new wr 24 #[.int .u64 (xk : Int), sv xs]
      go_wp2_with fail
      refine (TLj.out _).mono ?_
      rintro e wa ⟨rfl, hba⟩
      have hbA := bt hbx hba
      have A1 := own_later HO.out hbA
      have hownA := A1.alloc (.cells #[sv t] 9)
      have hnews := World.news_of_block (heap_alloc_new wa (.cells #[sv t] 9))
      have B3 := Lib.hid (ba (bt HB.out hbA) (.cells #[sv t] 9))
      have K3 := Lib.hid ((HK.out.below hbA).alloc (.cells #[sv t] 9))
      have G3 := Lib.hid ((HG.out.below hbA).alloc (.cells #[sv t] 9))
      have X3 := Lib.hid ((hkx.below hba).alloc (.cells #[sv t] 9))
      have HSZ : Hid (w.heap.size + 1 ≤ (wa.alloc (.cells #[sv t] 9)).heap.size) := Lib.hid (by have := K3.out.lt; omega)
      have d1 := (hkx.below hba).cell 0
      clear A1 hkx hbx
      go_wp2_with (at_builtin; go_must (refine wpList_append_own _ rfl _ _ 25 rfl (w.heap.size + 1) 9 si _ 1 16 Tryd.underlying25 hsi jy0 jy1 jy2 rfl (by decide) _ _ _ rfl hownA ⟨wa.heap.size, 0, none⟩ 1 1 [sv t] rfl rfl hnews (by simp [Value.oneCell']) (by unfold maxLen; omega) (by omega) HSZ.out ?_); intro v4 w5 hown5 hgrow5 _; obtain ⟨g6, c6, rfl⟩ := ownsRow_succ hown5; have B5 := Lib.hid (B3.out.grown hgrow5 B3.out.size (fun k e => by have := (hownA.lt k e).1; omega)); have KG : ∀ (q : Nat) (ty : TypeId) (cs : Array Value), ty ≠ 9 → Blk (wa.alloc (.cells #[sv t] 9)) q ty cs → Blk w5 q ty cs := (fun q ty cs hty hq => (hgrow5.block _ hq.lt (fun e => vown_ne hownA hq (fun e2 => hty e2.symm) e.symm)).trans hq); have K5 := Lib.hid (KG _ _ _ (by decide) K3.out); have G5 := KG _ _ _ (by decide) G3.out; have X5 := KG _ _ _ (by decide) X3.out; have W6 : Hid ((w5.setCell ⟨gN, j, none⟩ (vu xk)).ownsRow (w.heap.size + 1) 9 1 (.slice (some ⟨g6, 0, none⟩) (j + 1 + 1) c6) (j + 1 + 1) (sv y9 :: ((D.take (j + 1)).map sv))) := Lib.hid (by rw [HTD.out]; exact vown_kept hown5 (fun q hq => Below.heap_setCell w5 ⟨gN, j, none⟩ (vu xk) q (fun e => vown_ne hown5 G5 (by decide) (by rw [hq]; exact congrArg some e)))); have x0 := X5.cell 0; have p0 := G5.frozen j; have p1 : w5.cell? ⟨gN, j, none⟩ = some (vu ((vfill K j).getD j 0)) := (by rw [G5.cell j, List.getElem?_toArray, vqs_at vu _ j (by have := HJK.out; simp [vfill]; omega)]); have G6 := Lib.hid (vblk_fill vu G5 HX.out); have B6 := Lib.hid (bs (b := gN) (o := j) B5.out (by have := HGN.out; omega) (vu xk)); have K6 := Lib.hid (K5.out.far (p := ⟨gN, j, none⟩) (by have := HGN.out; simp; omega) (vu xk)); clear hown5 hgrow5 hnews hownA KG G5 X5)
      exact ⟨⟨j + 1, g6, c6, by omega, by go_num, rfl, W6, G6, K6, B6⟩, by simp [intOf]; omega⟩
    · obtain rfl : n = j := by omega
      rw [HKA.out] at HG
      have HDA : D.take n = D := by rw [← HDl.out, List.take_length]
      rw [HDA] at HO
      have hnew := ba (Below.refl wr.heap.size wr) (.cells #[.int .i64 9] 3)
      have hV := blk_VR (q := vu) (HG.out.alloc (.cells #[.int .i64 9] 3))
      have hBn := ba HB.out (.cells #[.int .i64 9] 3)
      have TH1 := Lib.hid (TH.out _ _ hV hBn)
      have O1 := yown_one (base := w.heap.size + 1) (Blk.new wr 3 #[.int .i64 9]) (by have := HK.out.lt; omega)
      clear hV hlt HDA HKA HR HDT HKX TL
      go_wp2_with fail
      refine TH1.out.mono ?_
      rintro e wb ⟨gH, rfl, hkH, hbH⟩
      have O2 := own_later O1 hbH
      have L2 := own_later HO.out (bt hnew hbH)
      have K2 := (HK.out.alloc (.cells #[.int .i64 9] 3)).below hbH
      have B2 := bt hBn hbH
      have hnews : ∀ (i : Nat) (u : Value), (HH.map vi)[i]? = some u → wb.cell? ((⟨gH, 0, none⟩ : Addr).add i) = some u := by simpa using World.news_of_block hkH
      have hls : (HH.map vi).length = n * 1 := by rw [List.length_map, HHl.out, Nat.mul_one]
      have hone : ∀ u ∈ HH.map vi, u.oneCell' = true := by
        intro u hu
        rw [List.mem_map] at hu
        obtain ⟨y, _, rfl⟩ := hu
        rfl
      have HSZ : Hid (w.heap.size + 1 ≤ wb.heap.size) := Lib.hid (by have := K2.lt; omega)
      have HEND : Hid (∀ (v4 : Value) (w5 : World), w5.ownsRow (w.heap.size + 1) 3 1 v4 (1 + n) ([.int .i64 9] ++ HH.map vi) → wb.grownBy w5 (Value.slice (some ⟨wr.heap.size, 0, none⟩) 1 1).ownBlock →
          ∃ A6 c6, v4 = .slice A6 (n + 1) c6 ∧ Blk w5 w.heap.size 60 #[.slice none 0 0, .slice none 0 0] ∧ (n + 1 ≤ c5 ∧ n + 1 ≤ c6) ∧ SR ((w5.setCell ⟨w.heap.size, 0, none⟩ (.slice (some ⟨g5, 0, none⟩) (n + 1) c5)).setCell ⟨w.heap.size, 1, none⟩ (.slice A6 (n + 1) c6)) (some ⟨g5, 0, none⟩) (y9 :: D) ∧ VR vi ((w5.setCell ⟨w.heap.size, 0, none⟩ (.slice (some ⟨g5, 0, none⟩) (n + 1) c5)).setCell ⟨w.heap.size, 1, none⟩ (.slice A6 (n + 1) c6)) A6 (9 :: HH) ∧ Below w.heap.size w ((w5.setCell ⟨w.heap.size, 0, none⟩ (.slice (some ⟨g5, 0, none⟩) (n + 1) c5)).setCell ⟨w.heap.size, 1, none⟩ (.slice A6 (n + 1) c6))) := Lib.hid fun v4 w5 hown5 hgrow5 => by
        rw [Nat.add_comm 1 n] at hown5
        obtain ⟨A6, c6, rfl, hA6⟩ := own_form hown5
        have K5 : Blk w5 w.heap.size 60 #[.slice none 0 0, .slice none 0 0] := (hgrow5.block _ K2.lt (fun e => by have h1 := (O2.lt _ e.symm).1; omega)).trans K2
        have L5 := vown_kept L2 (fun q hq => hgrow5.block q (L2.lt q hq).2 (fun e => by
          obtain ⟨_, cs, hb9⟩ := vown_blk L2 q hq
          exact vown_ne O2 hb9 (by decide) e.symm))
        have L6 := yown_far (g := w.heap.size) (o := 1) (yown_far (g := w.heap.size) (o := 0) L5 (by omega) (.slice (some ⟨g5, 0, none⟩) (n + 1) c5)) (by omega) (.slice A6 (n + 1) c6)
        have H6 := yown_far (g := w.heap.size) (o := 1) (yown_far (g := w.heap.size) (o := 0) hown5 (by omega) (.slice (some ⟨g5, 0, none⟩) (n + 1) c5)) (by omega) (.slice A6 (n + 1) c6)
        refine ⟨A6, c6, rfl, K5, ⟨?_, ?_⟩, own_SR' (L := y9 :: D) L6 (by rw [List.length_cons, HDl.out]), own_VR (q := vi) (L := 9 :: HH) H6 (by rw [List.length_cons, HHl.out]), bs (b := w.heap.size) (o := 1) (bs (b := w.heap.size) (o := 0) (B2.grown hgrow5 B2.size (fun k e => by have := (O2.lt k e).1; omega)) (Nat.le_refl _) (.slice (some ⟨g5, 0, none⟩) (n + 1) c5)) (Nat.le_refl _) (.slice A6 (n + 1) c6)⟩
        · obtain ⟨A', c', e, hh⟩ := own_form L5
          injection e with _ _ e3
          subst e3
          rcases hh with ⟨_, h1, _⟩ | ⟨_, _, h1, _⟩
          · omega
          · exact h1
        · rcases hA6 with ⟨_, h1, _⟩ | ⟨_, _, h1, _⟩
          · omega
          · exact h1
      clear L2 K2 B2 hbH hkH O1 hBn hnew
      go_wp2_with (at_builtin; go_must (refine wpList_append_own _ rfl _ _ 58 rfl (w.heap.size + 1) 3 ti _ 1 8 Tryd.underlying58 hti hz0 hz1 hz2 rfl (by decide) _ _ _ rfl O2 ⟨gH, 0, none⟩ n n (HH.map vi) rfl hls hnews hone (by unfold maxLen; omega) (by omega) HSZ.out ?_); intro v4 w5 hown5 hgrow5 _; obtain ⟨A6, c6, rfl, K5, hE⟩ := HEND.out v4 w5 hown5 hgrow5; have HE := Lib.hid hE; have q0 := K5.cell 0; have q1 := K5.cell 1; have f0 := K5.frozen 0; have f1 := K5.frozen 1; have K6 := Lib.hid ((K5.set_ 0 (.slice (some ⟨g5, 0, none⟩) (n + 1) c5)).set_ 1 (.slice A6 (n + 1) c6)); clear hown5 hgrow5 hE K5 hnews hone hls)
      refine bodyPost_ret (yrow_result rfl K6.out) rfl ?_
      exact ⟨_, c5, A6, c6, rfl, HE.out.1.1, HE.out.1.2, HE.out.2.1, HE.out.2.2.1, HE.out.2.2.2⟩
end Go.Proofs.YthllanndiahdjaaDoor
/- The contracts of Row and Root. -/
namespace Go.Proofs.YthllanndiahdjaaDoor
open Go.RowKit

/-- What Row tells, and what it makes. -/
def yrowE (Z : List ItL) (lev : Int) : Int := if ¬ IRt Z then 1 else if ¬ (0 ≤ lev ∧ lev ≤ 8) then 2 else 0
def yrowRes (k : List UInt8) (Z : List ItL) (lev : Int) : List (List UInt8) := if yrowE Z lev = 0 then yrowL k Z lev.toNat else []
theorem yrowE_bad {Z : List ItL} {lev : Int} (k : List UInt8) (h : ¬ IRt Z) : yrowE Z lev = 1 ∧ yrowRes k Z lev = [] := by
  have e : yrowE Z lev = 1 := by rw [yrowE, if_pos h]
  exact ⟨e, by rw [yrowRes, if_neg (by omega)]⟩
theorem yrowE_range {Z : List ItL} {lev : Int} (k : List UInt8) (h : IRt Z) (h2 : ¬ (0 ≤ lev ∧ lev ≤ 8)) : yrowE Z lev = 2 ∧ yrowRes k Z lev = [] := by
  have e : yrowE Z lev = 2 := by rw [yrowE, if_neg (fun hh => hh h), if_pos h2]
  exact ⟨e, by rw [yrowRes, if_neg (by omega)]⟩
theorem yrowE_yes {Z : List ItL} (lev : Nat) (k : List UInt8) (h : IRt Z) (h2 : lev ≤ 8) : yrowE Z (lev : Int) = 0 ∧ yrowRes k Z (lev : Int) = yrowL k Z lev := by
  have e : yrowE Z (lev : Int) = 0 := by rw [yrowE, if_neg (fun hh => hh h), if_neg (fun hh => hh ⟨by omega, by omega⟩)]
  exact ⟨e, by rw [yrowRes, if_pos e]; rfl⟩
def yrootE (Z : List ItL) : Int := if IRt Z then 0 else 1
def yrootRes (k : List UInt8) (Z : List ItL) : List UInt8 := if IRt Z then yroot k Z else []

/-- A block of two slices holds no text, and no number. -/
theorem yslices_at {W : World} {b : Nat} {t : TypeId} {a1 a2 : Option Addr} {n1 c1 n2 c2 : Nat} (hb : Blk W b t #[.slice a1 n1 c1, .slice a2 n2 c2]) (j : Nat) (v : Value) (h : W.cell? ⟨b, j, none⟩ = some v) : ∃ a n c, v = .slice a n c := by
  rw [hb.cell j] at h
  match j, h with
  | 0, h => exact ⟨_, _, _, (by simpa using h.symm)⟩
  | 1, h => exact ⟨_, _, _, (by simpa using h.symm)⟩
  | j + 2, h => simp at h
theorem SR.setB {W : World} {A : Option Addr} {L : List (List UInt8)} {b o : Nat} {t : TypeId} {a1 a2 : Option Addr} {n1 c1 n2 c2 : Nat} {v : Value} (h : SR W A L) (hb : Blk W b t #[.slice a1 n1 c1, .slice a2 n2 c2]) : SR (W.setCell ⟨b, o, none⟩ v) A L := fun j hj => by
  obtain ⟨g, off, e, h0⟩ := h j hj
  have hne : g ≠ b := fun e2 => by
    subst e2
    obtain ⟨_, _, _, h3⟩ := yslices_at hb _ _ h0
    cases h3
  exact ⟨g, off, e, (World.cell?_of_block (a := ⟨g, off + j, none⟩) (Below.heap_setCell W ⟨b, o, none⟩ v g hne)).trans h0⟩
theorem VR.setB {W : World} {A : Option Addr} {L : List Nat} {b o : Nat} {t : TypeId} {a1 a2 : Option Addr} {n1 c1 n2 c2 : Nat} {v : Value} (h : VR vi W A L) (hb : Blk W b t #[.slice a1 n1 c1, .slice a2 n2 c2]) : VR vi (W.setCell ⟨b, o, none⟩ v) A L := fun j hj => by
  obtain ⟨g, off, e, h0⟩ := h j hj
  have hne : g ≠ b := fun e2 => by
    subst e2
    obtain ⟨_, _, _, h3⟩ := yslices_at hb _ _ h0
    cases h3
  exact ⟨g, off, e, (World.cell?_of_block (a := ⟨g, off + j, none⟩) (Below.heap_setCell W ⟨b, o, none⟩ v g hne)).trans h0⟩

set_option maxRecDepth 100000 in
set_option maxHeartbeats 8000000 in
theorem yRow_yes (k : List UInt8) (A : Option Addr) (n c lev : Nat) (Z : List ItL) (w : World) (hlev : lev ≤ 8) (hk : k.length ≤ 60000) (hA : IR w A Z) (hl : Z.length = n) (hx : ∀ x ∈ Z, x.1 < 18446744073709551616) (hr : IRt Z) (hT : VTab w) :
    Calls Tryd.prog 14 #[.string ⟨k.toArray⟩, .slice A n c, .int .i64 (lev : Int)] w fun e w' => ∃ B d, e = .returned (.tuple #[.slice B (yrowL k Z lev).length d, .int .i64 0]) ∧ SR w' B (yrowL k Z lev) ∧ Below w.heap.size w w' := by
  have hn : n ≤ 64 := by have := hr.1; omega
  have TR := Lib.hid (iright_any A n c Z w hA hl (by omega))
  rw [decide_eq_true hr] at TR
  have TF := Lib.hid (fun W (hb : Below w.heap.size w W) => yfirst_any k A n c Z W hk (hA.later hb) hl hn hx hr.val (hT.later hb))
  have HN : Hid (∀ (q : Nat) (A B : Option Addr) (m cA cB : Nat) (W : World), q < lev → m = (yrowL k Z q).length → SR W A (yrowL k Z q) → VR vi W B (yhts (yht k Z) q) → m ≤ cA → m ≤ cB → Calls Tryd.prog 34 #[.agg #[.slice A m cA, .slice B m cB], .int .i64 ((q : Int) + 1)] W fun e w' => ∃ A' m' c' B' d', e = .returned (.agg #[.slice A' m' c', .slice B' m' d']) ∧ m' = (yrowL k Z (q + 1)).length ∧ m' ≤ c' ∧ m' ≤ d' ∧ SR w' A' (yrowL k Z (q + 1)) ∧ VR vi w' B' (yhts (yht k Z) (q + 1)) ∧ Below W.heap.size W w') := Lib.hid fun q A B m cA cB W hq hm hA hB hcA hcB => by
    have h1 : (yhts (yht k Z) q).length = m := by rw [yhts_len, hm, yrowL, yrow_len]
    have h2 : yhi (yhts (yht k Z) q) (q + 1) m = yhi (yhts (yht k Z) q) (q + 1) (yhts (yht k Z) q).length := by rw [h1]
    have h3 := yrow_step (ybase Z) (yht k Z) q
    have h4 := yhts_step (yht k Z) q
    rw [h1] at h3 h4
    have h5 : (yhi (yhts (yht k Z) q) (q + 1) m).length = (yrowL k Z (q + 1)).length := by
      rw [yrowL, ← h3, List.length_map, ycut_len]
    have h6 := ynext_any (q + 1) m cA cB A B (yrowL k Z q) (yhts (yht k Z) q) W (by omega) hA hB hm.symm h1 hcA hcB (by have := yrowL_le k Z q; omega) (yrowL_32 k Z q) (by rw [h5]; exact yrowL_pos k Z (q + 1) (by omega))
    rw [show (((q + 1 : Nat)) : Int) = (q : Int) + 1 by omega] at h6
    refine h6.mono ?_
    rintro e w' ⟨A', c', B', d', rfl, g1, g2, g3, g4, g5⟩
    refine ⟨A', _, c', B', d', rfl, h5, g1, g2, ?_, ?_, g5⟩
    · rw [show yrowL k Z (q + 1) = yrow (ybase Z) (yht k Z) (q + 1) from rfl, ← h3]; exact g3
    · rw [← h4]; exact g4
  have H0 : Hid (yhead :: Z.map yleaf = yrowL k Z 0 ∧ yht k Z = yhts (yht k Z) 0) := Lib.hid ⟨(yrow_zero k Z).symm, (yhts_zero k Z).symm⟩
  rw [H0.out.1] at TF
  have HL0 : Hid ((yrowL k Z 0).length = n + 1) := Lib.hid (by rw [← H0.out.1, List.length_cons, List.length_map, hl])
  have HV0 : Hid (∀ W B, VR vi W B (yht k Z) → VR vi W B (yhts (yht k Z) 0)) := Lib.hid fun W B h => by rw [← H0.out.2]; exact h
  clear hA hx hr hT hl H0 hk
  generalize yhts (yht k Z) = U at *
  generalize yht k Z = U0 at *
  generalize yrowL k Z = T at *
  go_enter Tryd.func14, Tryd.ntmps14
  go_wp2_with fail
  refine TR.out.mono ?_
  rintro e w1 ⟨rfl, hb1⟩
  go_wp2_with fail
  refine (TF.out _ hb1).mono ?_
  rintro e w2 ⟨X, c2, Y, d2, rfl, hc2, hd2, hS2, hV2, hb2⟩
  have HS2 := Lib.hid hS2
  have HV2 := Lib.hid (HV0.out _ _ hV2)
  have hB2 := bt hb1 hb2
  have hk2 := Blk.new w2 60 #[.slice X (n + 1) c2, .slice Y (n + 1) d2]
  have hw2 := ba (Below.refl w2.heap.size w2) (.cells #[.slice X (n + 1) c2, .slice Y (n + 1) d2] 60)
  have HBr : Hid (w.heap.size ≤ w2.heap.size) := Lib.hid hB2.size
  have HK3 := Lib.hid hk2
  have HS3 := Lib.hid (HS2.out.later hw2)
  have HV3 := Lib.hid (HV2.out.later hw2)
  have HB3 := Lib.hid (bt hB2 hw2)
  clear hS2 hV2 hb2 hk2 hw2 hB2 HS2 HV2
  have l0 : ¬ (lev : Int) < 0 := by omega
  have l8 : ¬ (8 : Int) < (lev : Int) := by omega
  go_wp2_with fail
  generalize w2.alloc (.cells #[.slice X (n + 1) c2, .slice Y (n + 1) d2] 60) = w3 at HK3 HS3 HV3 HB3 ⊢
  generalize w2.heap.size = br at HK3 HBr ⊢
  go_loopw [9] (fun iv wr => ∃ (q m cA cB : Nat) (A B : Option Addr), q ≤ lev ∧ iv = .int .i64 ((q : Int) + 1) ∧ Hid (Blk wr br 60 #[.slice A m cA, .slice B m cB]) ∧ Hid (m = (T q).length ∧ m ≤ cA ∧ m ≤ cB) ∧ Hid (SR wr A (T q)) ∧ Hid (VR vi wr B (U q)) ∧ Hid (Below w.heap.size w wr)) (fun i _ => lev + 1 - (intOf i).toNat)
  case atStart => exact ⟨0, n + 1, c2, d2, X, Y, Nat.zero_le _, rfl, HK3, Lib.hid ⟨HL0.out.symm, hc2, hd2⟩, HS3, HV3, HB3⟩
  case round =>
    clear HK3 HS3 HV3 HB3
    obtain ⟨q, m, cA, cB, A3, B3, hq, rfl, HK, HM, HS, HV, HB⟩ := hrel
    have k0 := HK.out.cell 0
    have k1 := HK.out.cell 1
    simp only [List.getElem?_toArray, List.getElem?_cons_zero, List.getElem?_cons_succ] at k0 k1
    by_cases hlt : q < lev
    · have TN := Lib.hid (HN.out q A3 B3 m cA cB wr hlt HM.out.1 HS.out HV.out HM.out.2.1 HM.out.2.2)
      have i1 : (q : Int) + 1 ≤ (lev : Int) := by omega
      clear hc2 hd2
      go_wp2_with fail
      refine TN.out.mono ?_
      rintro e w5 ⟨A5, m5, c5, B5, d5, rfl, hm5, hc5, hd5, hS5, hV5, hb5⟩
      have K5 := HK.out.below hb5
      have f0 := K5.frozen 0
      have f1 := K5.frozen 1
      have q0 := K5.cell 0
      have q1 := K5.cell 1
      simp only [List.getElem?_toArray, List.getElem?_cons_zero, List.getElem?_cons_succ] at q0 q1
      have K6 := K5.set_ 0 (.slice A5 m5 c5)
      have HK7 := Lib.hid (K6.set_ 1 (.slice B5 m5 d5))
      have HS7 := Lib.hid (SR.setB (o := 1) (v := .slice B5 m5 d5) (SR.setB (o := 0) (v := .slice A5 m5 c5) hS5 K5) K6)
      have HV7 := Lib.hid (VR.setB (o := 1) (v := .slice B5 m5 d5) (VR.setB (o := 0) (v := .slice A5 m5 c5) hV5 K5) K6)
      have HB7 := Lib.hid (bs (b := br) (o := 1) (bs (b := br) (o := 0) (bt HB.out hb5) HBr.out (.slice A5 m5 c5)) HBr.out (.slice B5 m5 d5))
      have HM7 := Lib.hid (And.intro hm5 (And.intro hc5 hd5))
      clear hS5 hV5 hb5 K5 K6 hm5 hc5 hd5 k0 k1
      go_wp2_with fail
      exact ⟨⟨q + 1, m5, c5, d5, A5, B5, by omega, by go_num, HK7, HM7, HS7, HV7, HB7⟩, by simp [intOf]; omega⟩
    · obtain rfl : lev = q := by omega
      have i1 : ¬ (lev : Int) + 1 ≤ (lev : Int) := by omega
      clear hc2 hd2
      go_wp2_with fail
      go_ret2
      exact ⟨A3, ⟨cA, by rw [← HM.out.1]; rfl⟩, HS.out, HB.out⟩

set_option maxRecDepth 100000 in
set_option maxHeartbeats 2000000 in
theorem yRow_bad (k : ByteArray) (A : Option Addr) (n c : Nat) (lev : Int) (Z : List ItL) (w : World) (hA : IR w A Z) (hl : Z.length = n) (hn : n ≤ 65536) (hr : ¬ IRt Z) :
    Calls Tryd.prog 14 #[.string k, .slice A n c, .int .i64 lev] w fun e w' => e = .returned (.tuple #[.slice none 0 0, .int .i64 1]) ∧ Below w.heap.size w w' := by
  have TR := Lib.hid (iright_any A n c Z w hA hl hn)
  rw [decide_eq_false hr] at TR
  clear hA hr hl
  go_enter Tryd.func14, Tryd.ntmps14
  go_wp2_with fail
  refine TR.out.mono ?_
  rintro e w1 ⟨rfl, hb1⟩
  go_wp2
  go_ret2
  exact ⟨rfl, hb1⟩
set_option maxRecDepth 100000 in
set_option maxHeartbeats 2000000 in
theorem yRow_range (k : ByteArray) (A : Option Addr) (n c : Nat) (lev : Int) (Z : List ItL) (w : World) (hA : IR w A Z) (hl : Z.length = n) (hn : n ≤ 65536) (hr : IRt Z) (hlev : ¬ (0 ≤ lev ∧ lev ≤ 8)) :
    Calls Tryd.prog 14 #[.string k, .slice A n c, .int .i64 lev] w fun e w' => e = .returned (.tuple #[.slice none 0 0, .int .i64 2]) ∧ Below w.heap.size w w' := by
  have TR := Lib.hid (iright_any A n c Z w hA hl hn)
  rw [decide_eq_true hr] at TR
  clear hA hr hl
  go_enter Tryd.func14, Tryd.ntmps14
  go_wp2_with fail
  refine TR.out.mono ?_
  rintro e w1 ⟨rfl, hb1⟩
  by_cases h0 : lev < 0
  · go_wp2
    go_ret2
    exact ⟨rfl, hb1⟩
  · have h8 : 8 < lev := by omega
    clear hlev
    go_wp2
    go_ret2
    exact ⟨rfl, hb1⟩
theorem yRow_any (k : List UInt8) (A : Option Addr) (n c : Nat) (lev : Int) (Z : List ItL) (w : World) (hk : k.length ≤ 60000) (hA : IR w A Z) (hl : Z.length = n) (hn : n ≤ 65536) (hx : ∀ x ∈ Z, x.1 < 18446744073709551616) (hT : VTab w) :
    Calls Tryd.prog 14 #[.string ⟨k.toArray⟩, .slice A n c, .int .i64 lev] w fun e w' => ∃ B d, e = .returned (.tuple #[.slice B (yrowRes k Z lev).length d, .int .i64 (yrowE Z lev)]) ∧ SR w' B (yrowRes k Z lev) ∧ Below w.heap.size w w' := by
  by_cases hr : IRt Z
  · by_cases hlev : 0 ≤ lev ∧ lev ≤ 8
    · obtain ⟨q, rfl⟩ : ∃ q : Nat, lev = (q : Int) := ⟨lev.toNat, by omega⟩
      obtain ⟨e1, e2⟩ := yrowE_yes q k hr (by omega)
      rw [e1, e2]
      exact yRow_yes k A n c q Z w (by omega) hk hA hl hx hr hT
    · obtain ⟨e1, e2⟩ := yrowE_range k hr hlev
      rw [e1, e2]
      exact (yRow_range _ A n c lev Z w hA hl hn hr hlev).mono fun e w' ⟨h1, h2⟩ => ⟨none, 0, h1, SR.nil _ _, h2⟩
  · obtain ⟨e1, e2⟩ := yrowE_bad (lev := lev) k hr
    rw [e1, e2]
    exact (yRow_bad _ A n c lev Z w hA hl hn hr).mono fun e w' ⟨h1, h2⟩ => ⟨none, 0, h1, SR.nil _ _, h2⟩

set_option maxRecDepth 100000 in
set_option maxHeartbeats 2000000 in
theorem yRoot_any (k : List UInt8) (A : Option Addr) (n c : Nat) (Z : List ItL) (w : World) (hk : k.length ≤ 60000) (hA : IR w A Z) (hl : Z.length = n) (hn : n ≤ 65536) (hx : ∀ x ∈ Z, x.1 < 18446744073709551616) (hT : VTab w) :
    Calls Tryd.prog 15 #[.string ⟨k.toArray⟩, .slice A n c] w fun e w' => e = .returned (.tuple #[.string ⟨(yrootRes k Z).toArray⟩, .int .i64 (yrootE Z)]) ∧ Below w.heap.size w w' := by
  by_cases hr : IRt Z
  · have TR := Lib.hid (show Calls Tryd.prog 14 #[.string ⟨k.toArray⟩, .slice A n c, .int .i64 8] w _ from yRow_yes k A n c 8 Z w (by omega) hk hA hl hx hr hT)
    have HL := Lib.hid (yrow_last k Z)
    have e1 : yrootE Z = 0 := by rw [yrootE, if_pos hr]
    have e2 : yrootRes k Z = yroot k Z := by rw [yrootRes, if_pos hr]
    rw [e1, e2]
    clear e1 e2 hA hl hx hT hr hk
    rw [HL.out] at TR
    clear HL
    generalize yroot k Z = t at *
    go_enter Tryd.func15, Tryd.ntmps15
    go_wp2_with fail
    refine TR.out.mono ?_
    rintro e w1 ⟨B, d, rfl, hS, hb1⟩
    obtain ⟨g, off, rfl, c0⟩ := hS 0 (by simp)
    rw [Nat.add_zero] at c0
    simp only [List.getD_cons_zero] at c0
    clear hS
    go_wp2
    go_ret2
    exact ⟨rfl, hb1⟩
  · have TR := Lib.hid (show Calls Tryd.prog 14 #[.string ⟨k.toArray⟩, .slice A n c, .int .i64 8] w _ from yRow_bad _ A n c 8 Z w hA hl hn hr)
    have e1 : yrootE Z = 1 := by rw [yrootE, if_neg hr]
    have e2 : yrootRes k Z = [] := by rw [yrootRes, if_neg hr]
    rw [e1, e2]
    clear e1 e2 hA hl hx hT hr hk
    go_enter Tryd.func15, Tryd.ntmps15
    go_wp2_with fail
    refine TR.out.mono ?_
    rintro e w1 ⟨rfl, hb1⟩
    go_wp2
    go_ret2
    exact ⟨rfl, hb1⟩
end Go.Proofs.YthllanndiahdjaaDoor
/- The contracts of alive and few. -/
namespace Go.Proofs.YthllanndiahdjaaDoor
open Go.RowKit

set_option maxRecDepth 100000 in
set_option maxHeartbeats 2000000 in
theorem yalive_any (w : World) (hT : VTab w) : Calls Tryd.prog 10 #[] w fun e w' => e = .returned (.bool true) ∧ Below w.heap.size w w' := by
  have TR := Lib.hid (show Calls Tryd.prog 14 #[.string ⟨#[107]⟩, .slice none 0 0, .int .i64 0] w _ from yRow_yes [107] none 0 0 0 [] w (by omega) (by simp) (IR.nil _ _) rfl (by simp) (by decide) hT)
  have e : yrowL [107] [] 0 = [yhead] := by rw [yrowL, yrow_zero]; rfl
  rw [e] at TR
  have hl : yhead.length = 32 := hsum32 _
  clear e hT
  generalize yhead = t at *
  have hz := isize t
  rw [hl] at hz
  clear hl
  go_enter Tryd.func10, Tryd.ntmps10
  go_wp2_with fail
  refine TR.out.mono ?_
  rintro e w1 ⟨B, d, rfl, hS, hb1⟩
  obtain ⟨g, off, rfl, c0⟩ := hS 0 (by simp)
  rw [Nat.add_zero] at c0
  simp only [List.getD_cons_zero] at c0
  clear hS
  go_wp2
  go_ret
  exact ⟨rfl, hb1⟩

/-- Few of the texts. -/
def yfew (L : List (List UInt8)) : List (List UInt8) := (L.take 8).map fun s => s.take 40
theorem yfew_len (L : List (List UInt8)) : (yfew L).length = min L.length 8 := by simp [yfew, Nat.min_comm]

set_option maxRecDepth 100000 in
set_option maxHeartbeats 4000000 in
theorem yfew_any (L : List (List UInt8)) (A : Option Addr) (c : Nat) (w : World) (hA : SR w A L) (hL : (L.length : Int) ≤ 9223372036854775807) (hc : L.length ≤ c) (hs : ∀ j, ((L.getD j []).length : Int) ≤ 9223372036854775807) :
    Calls Tryd.prog 6 #[.slice A L.length c] w fun e w' => ∃ A' c', e = .returned (.slice A' (yfew L).length c') ∧ (yfew L).length ≤ c' ∧ (∀ a, A' = some a → w.heap.size ≤ a.block) ∧ SR w' A' (yfew L) ∧ Below w.heap.size w w' := by
  obtain ⟨ti, hi0, jz0, jz1, jz2⟩ := info_parts infoS
  have HA := Lib.hid hA
  have HS := Lib.hid hs
  obtain ⟨n, hn⟩ : ∃ n, L.length = n := ⟨_, rfl⟩
  rw [hn] at hL hc ⊢
  obtain ⟨m, hm⟩ : ∃ m, min n 8 = m := ⟨_, rfl⟩
  have HFL : Hid ((yfew L).length = m) := Lib.hid (by rw [yfew_len, hn, hm])
  have HFT : Hid (∀ k, k < m → (yfew L).take (k + 1) = (yfew L).take k ++ [(L.getD k []).take 40]) := Lib.hid fun k hk => by
    rw [List.take_succ_eq_append_getElem (by rw [HFL.out]; exact hk)]
    congr 2
    simp [yfew, List.getD, show k < L.length by omega]
  have h1 : (m : Int) ≤ (n : Int) := by omega
  have h2 : min (n : Int) 8 = (m : Int) := by omega
  have h3 : m ≤ n := by omega
  have h4 : m ≤ 8 := by omega
  have h5 : (m : Int) ≤ (c : Int) := by omega
  have HN := Lib.hid hn
  rw [HFL.out]
  clear hn hm hA hs
  go_enter Tryd.func6, Tryd.ntmps6
  go_wp2_with fail
  go_loopw [3, 12] (fun ov iv wr => ∃ (k : Nat) (B : Option Addr) (d : Nat), k ≤ m ∧ iv = .int .i64 k ∧ ov = .slice B k d ∧ wr.ownsRow w.heap.size 9 1 (.slice B k d) k (((yfew L).take k).map sv) ∧ Below w.heap.size w wr) (fun _ i _ => m - (intOf i).toNat)
  case atStart => exact ⟨0, none, 0, Nat.zero_le _, rfl, rfl, World.ownsRow_nil _ _ _ _, Below.refl _ _⟩
  case round =>
    obtain ⟨k, B, d, hk, rfl, rfl, hown, hb⟩ := hrel
    by_cases hlt : k < m
    · obtain ⟨g, off, rfl, c0⟩ := (HA.out.later hb) k (by rw [HN.out]; omega)
      have HT := Lib.hid (HFT.out k hlt)
      have hsl := HS.out k
      have i0 : (0 : Int) ≤ (k : Int) := by omega
      have i1 : (k : Int) < (m : Int) := by omega
      have z := hb.size
      have HO := Lib.hid hown
      clear hown
      generalize L.getD k [] = x at c0 HT hsl
      have hzx := size_mk x
      obtain ⟨a, ha⟩ : ∃ a, min x.length 40 = a := ⟨_, rfl⟩
      have hex := extract_take x a
      have he : x.take a = x.take 40 := by
        rw [← ha]
        by_cases h : x.length ≤ 40
        · rw [Nat.min_eq_left h, List.take_of_length_le (by omega), List.take_of_length_le (by omega)]
        · rw [Nat.min_eq_right (by omega)]
      rw [he] at hex
      obtain ⟨xl, hxl⟩ : ∃ xl, x.length = xl := ⟨_, rfl⟩
      rw [hxl] at hzx hsl ha
      generalize x.take 40 = y at HT hex
      have j1 : min (xl : Int) 40 = (a : Int) := by omega
      have j2 : (a : Int) ≤ (xl : Int) := by omega
      have j3 : a ≤ xl := by omega
      clear hsl hxl he ha
      have hownA := own_later HO.out (ba (Below.refl wr.heap.size wr) (.cells #[sv y] 9))
      have hnews := World.news_of_block (heap_alloc_new wr (.cells #[sv y] 9))
      go_wp2_with (at_builtin; refine wpList_append_own _ rfl _ _ 25 rfl w.heap.size 9 ti _ 1 16 Tryd.underlying25 hi0 jz0 jz1 jz2 rfl (by decide) _ _ _ rfl hownA ⟨wr.heap.size, 0, none⟩ 1 1 [sv y] rfl rfl hnews (by simp [Value.oneCell']) (by unfold maxLen; omega) (by omega) (by simp; omega) ?_; intro v3 w3 hown3 hgrow3 _; obtain ⟨g3, c3, rfl⟩ := ownsRow_succ hown3)
      have hb3 : Below w.heap.size w w3 := (ba hb _).grown hgrow3 (by simp; omega) (fun k e => (hownA.lt k e).1)
      exact ⟨⟨k + 1, some ⟨g3, 0, none⟩, c3, by omega, by go_num, rfl, by rw [HT.out, List.map_append]; exact hown3, hb3⟩, by simp [intOf]; omega⟩
    · obtain rfl : m = k := by omega
      have htk : (yfew L).take m = yfew L := List.take_of_length_le (by rw [HFL.out]; exact Nat.le_refl _)
      rw [htk] at hown
      clear htk
      have HR := Lib.hid (own_SR' hown HFL.out)
      have HC : Hid (m ≤ d) := Lib.hid (by
        obtain ⟨A', c', e, hh⟩ := own_form hown
        injection e with _ _ e3
        subst e3
        rcases hh with ⟨_, h1, _⟩ | ⟨_, _, h1, _⟩ <;> omega)
      have HG : Hid (∀ a, B = some a → w.heap.size ≤ a.block) := Lib.hid fun a e => by
        subst e
        exact (hown.lt a.block rfl).1
      clear hown
      go_wp2
      go_ret
      exact ⟨_, _, rfl, HC.out, HG.out, HR.out, hb⟩
end Go.Proofs.YthllanndiahdjaaDoor
/- The contracts of the reference's Item, Leaf, Text and Labels. -/
namespace Go.Proofs.YthllanndiahdjaaDoor
open Go.RowKit

/-- A byte made a text. -/
theorem yone_at (b : UInt8) (g : Nat) (W : World) (h : W.cell? ⟨g, 0, none⟩ = some (cbv b)) : (convert 57 9 (.slice (some ⟨g, 0, none⟩) 1 1)).run Tryd.prog W = .ok (.string ⟨[b].toArray⟩) W :=
  run_convert_bytes_back (P := Tryd.prog) W 57 9 5 ⟨g, 0, none⟩ 1 [b] Tryd.underlying57 Tryd.underlying5 Tryd.underlying9 (fun j hj => by
    obtain rfl : j = 0 := by simpa using hj
    simpa [Addr.add] using h)
theorem yone_new (b : UInt8) (W : World) : (convert 57 9 (.slice (some ⟨W.heap.size, 0, none⟩) 1 1)).run Tryd.prog (W.alloc (.cells #[cbv b] 5)) = .ok (.string ⟨[b].toArray⟩) (W.alloc (.cells #[cbv b] 5)) := yone_at b _ _ ((Blk.new W _ _).cell 0)
theorem yone_drew (b : UInt8) (W : World) : (convert 57 9 (.slice (some ⟨W.heap.size, 0, none⟩) 1 1)).run Tryd.prog (W.alloc (.cells #[cbv b] 5)).drew = .ok (.string ⟨[b].toArray⟩) (W.alloc (.cells #[cbv b] 5)).drew := yone_at b _ _ ((Blk.new W _ _).cell 0)
theorem yone_later (b : UInt8) (W W1 : World) (h : Below (W.alloc (.cells #[cbv b] 5)).drew.heap.size (W.alloc (.cells #[cbv b] 5)).drew W1) : (convert 57 9 (.slice (some ⟨W.heap.size, 0, none⟩) 1 1)).run Tryd.prog W1 = .ok (.string ⟨[b].toArray⟩) W1 :=
  yone_at b _ _ (((show Blk (W.alloc (.cells #[cbv b] 5)).drew W.heap.size 5 #[cbv b] from Blk.new W _ _).below h).cell 0)

set_option maxRecDepth 100000 in
set_option maxHeartbeats 1000000 in
theorem yrtext_any (lev : Nat) (A : Option Addr) (n c : Nat) (L : List (List UInt8)) (w : World) (hlev : lev ≤ 8) (hA : SR w A L) (hl : L.length = n) (hn : n ≤ 4096) (hf : L.flatten.length ≤ 60000) :
    Calls Tryd.prog 13 #[.int .i64 (lev : Int), .slice A n c] w fun e w' => e = .returned (.string ⟨(ytext lev L).toArray⟩) ∧ Below w.heap.size w w' := by
  have HR := Lib.hid (fun j W (hj : j < n) (hb : Below w.heap.size w W) => (hA.later hb) j (by omega))
  have T1 := Lib.hid (fun W => show Calls Tryd.prog 31 #[.int .u64 (lev : Int), .int .i64 8] W fun e w' => e = .returned (.string ⟨(low lev 8).toArray⟩) ∧ Below W.heap.size W w' from rlow_any lev 8 W (by omega) (by omega))
  have l1 : (low lev 8).length = 8 := low_length _ _
  have hcv : ∀ W : World, (convert 57 9 (.slice (some ⟨W.heap.size, 0, none⟩) 1 1)).run Tryd.prog (W.alloc (.cells #[.int .u8 2] 5)) = .ok (.string ⟨[2].toArray⟩) (W.alloc (.cells #[.int .u8 2] 5)) := fun W => yone_new 2 W
  have hcd : ∀ W : World, (convert 57 9 (.slice (some ⟨W.heap.size, 0, none⟩) 1 1)).run Tryd.prog (W.alloc (.cells #[.int .u8 2] 5)).drew = .ok (.string ⟨[2].toArray⟩) (W.alloc (.cells #[.int .u8 2] 5)).drew := fun W => yone_drew 2 W
  have hwz : IntKind.u64.wrap (lev : Int) = (lev : Int) := by rw [IntKind.wrap_u64]; omega
  have HALL : Hid (∀ s, ytext lev (L.take n) = s → ytext lev L = s) := Lib.hid fun s h => by rw [← hl, List.take_length] at h; exact h
  have HST : Hid (∀ j, j < n → ytext lev (L.take (j + 1)) = ytext lev (L.take j) ++ L.getD j []) := Lib.hid fun j hj => by
    have hj2 : j < L.length := by omega
    have e : L.take (j + 1) = L.take j ++ [L.getD j []] := by rw [List.take_add_one]; simp [List.getD, hj2]
    rw [e]
    simp [ytext]
  have HLE : Hid (∀ j, (ytext lev (L.take j)).length ≤ 60009) := Lib.hid fun j => by
    rw [ytext_len]
    have : (L.take j).flatten.length ≤ L.flatten.length := by
      conv => rhs; rw [← List.take_append_drop j L]
      rw [List.flatten_append, List.length_append]
      omega
    omega
  have H0 : Hid (ytext lev (L.take 0) = [2] ++ low lev 8) := Lib.hid (by simp [ytext])
  clear hA hl hf
  generalize low lev 8 = a at *
  have a1 : ∀ W : World, (Op.stringOp .add ⟨[(2 : UInt8)].toArray⟩ ⟨a.toArray⟩).run Tryd.prog W = .ok (.string ⟨([2] ++ a).toArray⟩) W := fun W => run_string_add_lists (P := Tryd.prog) W [2] a (by simp) (by omega)
  generalize [2] ++ a = d at *
  go_enter Tryd.func13, Tryd.ntmps13
  go_wp2_with fail
  go_cut [5] from 8 to 14 (fun s5 wx => s5 = .string ⟨d.toArray⟩ ∧ Below w.heap.size w wx)
  case first =>
    go_region_with (first | (go_at_call 31; refine (T1.out _).mono ?_; rintro e w1 ⟨rfl, hb1⟩; try have hc1 := yone_later 2 _ _ hb1))
    all_goals (try clear hc1)
    all_goals go_wp2_with fail
    all_goals go_meet
    all_goals first
      | exact ⟨rfl, bt (ba (Below.refl _ _) _).drew hb1⟩
      | exact ⟨rfl, ba (bt (Below.refl _ _).drew hb1) _⟩
  case rest =>
    obtain ⟨rfl, HB0⟩ := hcut
    clear hcv hcd a1 l1
    go_wp2_with fail
    go_loopw [5, 16] (fun ov iv wr => ∃ (j : Nat) (T : List UInt8), j ≤ n ∧ iv = .int .i64 (j : Int) ∧ ov = .string ⟨T.toArray⟩ ∧ Hid (ytext lev (L.take j) = T) ∧ Hid (Below w.heap.size w wr)) (fun _ i _ => n - (intOf i).toNat)
    case atStart => exact ⟨0, d, Nat.zero_le _, rfl, rfl, H0, Lib.hid HB0⟩
    case round =>
      clear HB0 H0
      obtain ⟨j, T, hj, rfl, rfl, HT, HB⟩ := hrel
      by_cases hlt : j < n
      · obtain ⟨g, off, rfl, c0⟩ := HR.out j wr hlt HB.out
        have HT2 := HST.out j hlt
        have hle := HLE.out (j + 1)
        rw [HT2, HT.out, List.length_append] at hle
        rw [HT.out] at HT2
        have HT2 := Lib.hid HT2
        generalize L.getD j [] = x at c0 HT2 hle
        have a2 : ∀ W : World, (Op.stringOp .add ⟨T.toArray⟩ ⟨x.toArray⟩).run Tryd.prog W = .ok (.string ⟨(T ++ x).toArray⟩) W := fun W => run_string_add_lists (P := Tryd.prog) W T x (by omega) (by omega)
        have i0 : (0 : Int) ≤ (j : Int) := by omega
        have i1 : (j : Int) < (n : Int) := by omega
        go_wp2_with fail
        exact ⟨⟨j + 1, _, by omega, by go_num, rfl, HT2, HB⟩, by simp [intOf]; omega⟩
      · obtain rfl : j = n := by omega
        have HA2 := Lib.hid (HALL.out T HT.out)
        go_wp2
        go_ret
        exact ⟨by rw [HA2.out]; rfl, HB.out⟩

set_option maxRecDepth 100000 in
set_option maxHeartbeats 1000000 in
theorem ylabels_any (A : Option Addr) (n c : Nat) (L : List (List UInt8)) (w : World) (hA : SR w A L) (hl : L.length = n) (hn : n ≤ 65536) :
    Calls Tryd.prog 11 #[.slice A n c] w fun e w' => ∃ b : Bool, e = .returned (.bool b) ∧ (b = false ↔ YNo L) ∧ w = w' := by
  have HR := Lib.hid (fun j (hj : j < n) => hA j (by omega))
  have HL := Lib.hid hl
  clear hA hl
  go_enter Tryd.func11, Tryd.ntmps11
  go_wp2_with fail
  go_loopw [7] (fun iv wr => ∃ j : Nat, j ≤ n ∧ iv = .int .i64 (j : Int) ∧ wr = w ∧ Hid (∀ t, t < j → (L.getD t []).length = 32)) (fun i _ => n - (intOf i).toNat)
  case atStart => exact ⟨0, Nat.zero_le _, rfl, rfl, Lib.hid fun t ht => absurd ht (Nat.not_lt_zero _)⟩
  case round =>
    obtain ⟨j, hj, rfl, rfl, HA⟩ := hrel
    by_cases hlt : j < n
    · obtain ⟨g, off, rfl, c0⟩ := HR.out j hlt
      have HAJ : Hid ((L.getD j []).length = 32 → ∀ t, t < j + 1 → (L.getD t []).length = 32) := Lib.hid fun h t ht => by
        rcases Nat.lt_or_ge t j with h2 | h2
        · exact HA.out t h2
        · obtain rfl : t = j := by omega
          exact h
      have HX : Hid ((L.getD j []).length ≠ 32 → YNo L) := Lib.hid fun h => ⟨j, by rw [HL.out]; exact hlt, h⟩
      generalize L.getD j [] = x at c0 HAJ HX
      have hz := isize x
      have i0 : (0 : Int) ≤ (j : Int) := by omega
      have i1 : (j : Int) < (n : Int) := by omega
      by_cases hx : x.length = 32
      · have e : ((x.length : Int) != 32) = false := by simp; omega
        have HA2 := Lib.hid (HAJ.out hx)
        clear hx HX HAJ
        go_wp2_with fail
        exact ⟨⟨j + 1, by omega, by go_num, by trivial, HA2⟩, by simp [intOf]; omega⟩
      · have e : ((x.length : Int) != 32) = true := by simp; omega
        have HX2 := Lib.hid (HX.out hx)
        clear hx HX HAJ
        go_wp2
        go_ret
        exact ⟨false, rfl, ⟨fun _ => HX2.out, fun _ => rfl⟩, rfl⟩
    · obtain rfl : j = n := by omega
      have HE : Hid (¬ YNo L) := Lib.hid fun ⟨t, h1, h2⟩ => h2 (HA.out t (by rw [← HL.out]; exact h1))
      go_wp2
      go_ret
      exact ⟨true, rfl, ⟨fun h => (by cases h), fun h => absurd h HE.out⟩, rfl⟩
end Go.Proofs.YthllanndiahdjaaDoor
