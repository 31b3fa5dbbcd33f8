/- Texts of this seat, one behind the other: YFirst, YRowR, YRRow. -/
import Derived.Test.YtjonhenllhnibaaGreatDoorQ13
import Derived.Test.YtjonhenllhnibaaGreatDoorQ14
import Derived.Test.YtjonhenllhnibaaGreatDoorQ15
import Derived.Test.YtjonhenllhnibaaGreatDoorQ17
import Derived.Test.YtjonhenllhnibaaGreatDoorQ26
import Derived.Test.YtjonhenllhnibaaGreatDoorQ27
/- The contract of firstRow. -/
namespace Go.Proofs.YtjonhenllhnibaaGreatDoor
open Go.RowKit

set_option maxRecDepth 100000 in
set_option maxHeartbeats 8000000 in
theorem yfirst_any (k : List UInt8) (A : Option Addr) (n c : Nat) (Z : List ItL) (w : World) (hk : k.length ≤ 60000) (hA : IR w A Z) (hl : Z.length = n) (hn : n ≤ 64) (hx : ∀ x ∈ Z, x.1 < 18446744073709551616) (hs : ∀ x ∈ Z, x.2.length ≤ 64) (hT : VTab w) :
    Calls Tryz.prog 55 #[.string ⟨k.toArray⟩, .slice A n c] w fun e w' => ∃ X c' Y d', e = .returned (.agg #[.slice X (n + 1) c', .slice Y (n + 1) d']) ∧ n + 1 ≤ c' ∧ n + 1 ≤ d' ∧ (∀ a, X = some a → w.heap.size ≤ a.block) ∧ SR w' X (yhead :: Z.map yleaf) ∧ VR vi w' Y (yht k Z) ∧ Below w.heap.size w w' := by
  obtain ⟨ti, hti, hz0, hz1, hz2⟩ := info_parts infoVI
  obtain ⟨si, hsi, jy0, jy1, jy2⟩ := info_parts infoS
  have e1 := imake_words n (by omega)
  have TS := Lib.hid (fun W => sum_any [1] W (by simp))
  have TL := Lib.hid (fun j W (hj : j < n) => ylf_any (Z.getD j (0, [])).1 (Z.getD j (0, [])).2 W (hs _ (ik_mem (by omega))) (hx _ (ik_mem (by omega))))
  have HR := Lib.hid (fun j W (hj : j < n) (hb : Below w.heap.size w W) => (hA.later hb) j (by omega))
  have HKl : Hid ((ikeys Z).length = n) := Lib.hid (by rw [ikeys_len, hl])
  have HKX : Hid (∀ j, j < n → (ikeys Z).getD j 0 = (Z.getD j (0, [])).1) := Lib.hid (fun j hj => ikeys_at Z j (by omega))
  have HKA : Hid (vfill (ikeys Z) n = ikeys Z) := Lib.hid (by have := vfill_all (ikeys Z); rwa [HKl.out] at this)
  have HKZ : Hid ((((vfill (ikeys Z) 0).map vu).toArray) = Array.replicate n (vu 0)) := Lib.hid (by rw [vfill_zero, HKl.out, List.map_replicate, List.toArray_replicate])
  have HXl : ∀ x ∈ ikeys Z, x < 18446744073709551616 := fun x hx2 => by
    simp only [ikeys, List.mem_map] at hx2
    obtain ⟨y, hy, rfl⟩ := hx2
    exact hx y hy
  have TH := Lib.hid (fun B W (hB : VR vu W B (ikeys Z)) (hW : Below w.heap.size w W) => vheights_any k B n n (ikeys Z) W hk hB HKl.out HXl (by omega) (hT.later hW))
  have HHl : Hid ((hsL k (ikeys Z)).length = n) := Lib.hid (by rw [hsL_len, HKl.out])
  have HHT : Hid (yht k Z = 9 :: hsL k (ikeys Z)) := Lib.hid rfl
  have HDl : Hid ((Z.map yleaf).length = n) := Lib.hid (by rw [List.length_map, hl])
  have HDT : Hid (∀ j, j < n → ((Z.map yleaf).take (j + 1)).map sv = ((Z.map yleaf).take j).map sv ++ [sv (yleaf ((Z.getD j (0, [])).1, (Z.getD j (0, [])).2))]) := Lib.hid fun j hj => by
    rw [List.take_add_one, List.map_append]
    have : j < Z.length := by omega
    simp [List.getD, this]
  have HD9 : Hid (hsumL [1] = yhead) := Lib.hid rfl
  rw [HD9.out] at TS
  rw [HHT.out]
  clear hA hl hx hs hT hk HXl HHT HD9
  generalize Z.map yleaf = D at *
  generalize hsL k (ikeys Z) = HH at *
  generalize ikeys Z = K at *
  generalize yhead = y9 at *
  have hk0 := Blk.new w 85 #[.slice none 0 0, .slice none 0 0]
  have hb0 := ba (Below.refl w.heap.size w) (.cells #[.slice none 0 0, .slice none 0 0] 85)
  go_enter Tryz.func55, Tryz.ntmps55
  go_wp2_with fail
  refine (TS.out _).mono ?_
  rintro e w1 ⟨rfl, hb1⟩
  have hz1' := hb1.size
  rw [World.size_alloc] at hz1'
  have hk1 := (hk0.below hb1).alloc (.cells #[sv y9] 9)
  have hb1' := ba (bt hb0 hb1) (.cells #[sv y9] 9)
  have hw1 : (w1.alloc (.cells #[sv y9] 9)).ownsRow (w.heap.size + 1) 9 1 (.slice (some ⟨w1.heap.size, 0, none⟩) 1 1) 1 [sv y9] := yown_one (Blk.new w1 _ _) (by omega)
  go_upto_region 3 with fail
  have HG0 : Blk ((w1.alloc (.cells #[sv y9] 9)).alloc (.cells (Array.replicate n (vu 0)) 23)) (w1.heap.size + 1) 23 (((vfill K 0).map vu).toArray) := by rw [HKZ.out]; exact Blk.newAt (by simp) _ _
  have hw2 := hw1.alloc (.cells (Array.replicate n (vu 0)) 23)
  have hk2 := hk1.alloc (.cells (Array.replicate n (vu 0)) 23)
  have hb2 := ba hb1' (.cells (Array.replicate n (vu 0)) 23)
  obtain ⟨gN, hgN⟩ : ∃ gN, w1.heap.size + 1 = gN := ⟨_, rfl⟩
  rw [hgN] at HG0
  have HGN : Hid (w.heap.size + 1 < gN) := Lib.hid (by omega)
  generalize (w1.alloc (.cells #[sv y9] 9)).alloc (.cells (Array.replicate n (vu 0)) 23) = w2 at HG0 hw2 hk2 hb2 ⊢
  rw [hgN]
  have HG2 := Lib.hid HG0
  have HW2 : Hid (w2.ownsRow (w.heap.size + 1) 9 1 (.slice (some ⟨w1.heap.size, 0, none⟩) (0 + 1) 1) (0 + 1) (sv y9 :: ((D.take 0).map sv))) := Lib.hid hw2
  have HK2 := Lib.hid hk2
  have HB2 := Lib.hid hb2
  clear HG0 hw2 hk2 hb2 hgN hz1' hk1 hb1' hw1 hb1 hk0 hb0 e1 HKZ TS
  go_wp2_with fail
  go_loopw [5, 16] (fun ov iv wr => ∃ (j g5 c5 : Nat), j ≤ n ∧ iv = .int .i64 (j : Int) ∧ ov = .slice (some ⟨g5, 0, none⟩) (j + 1) c5 ∧ Hid (wr.ownsRow (w.heap.size + 1) 9 1 (.slice (some ⟨g5, 0, none⟩) (j + 1) c5) (j + 1) (sv y9 :: ((D.take j).map sv))) ∧ Hid (Blk wr gN 23 (((vfill K j).map vu).toArray)) ∧ Hid (Blk wr w.heap.size 85 #[.slice none 0 0, .slice none 0 0]) ∧ Hid (Below w.heap.size w wr)) (fun _ i _ => n - (intOf i).toNat)
  case atStart => exact ⟨0, w1.heap.size, 1, Nat.zero_le _, rfl, rfl, HW2, HG2, HK2, HB2⟩
  case round =>
    clear HW2 HG2 HK2 HB2
    obtain ⟨j, g5, c5, hj, rfl, rfl, HO, HG, HK, HB⟩ := hrel
    by_cases hlt : j < n
    · obtain ⟨g, off, rfl, c0, c1⟩ := HR.out j wr hlt HB.out
      have TLj := Lib.hid (fun W => TL.out j W hlt)
      have HTD := Lib.hid (HDT.out j hlt)
      have HX := Lib.hid (HKX.out j hlt)
      have HJK : Hid (j < K.length) := Lib.hid (by rw [HKl.out]; exact hlt)
      generalize Z.getD j (0, []) = x at c0 c1 TLj HTD HX
      obtain ⟨xk, xs⟩ := x
      simp only at c0 c1 TLj HTD HX
      generalize yleaf (xk, xs) = t at *
      have i0 : (0 : Int) ≤ (j : Int) := by omega
      have i1 : (j : Int) < (n : Int) := by omega
      have hbx := ba (Below.refl wr.heap.size wr) (.cells #[.int .u64 (xk : Int), sv xs] 42)
      have hkx := Blk.new wr 42 #[.int .u64 (xk : Int), sv xs]
      go_wp2_with fail
      refine (TLj.out _).mono ?_
      rintro e wa ⟨rfl, hba⟩
      have hbA := bt hbx hba
      have A1 := own_later HO.out hbA
      have hownA := A1.alloc (.cells #[sv t] 9)
      have hnews := World.news_of_block (heap_alloc_new wa (.cells #[sv t] 9))
      have B3 := Lib.hid (ba (bt HB.out hbA) (.cells #[sv t] 9))
      have K3 := Lib.hid ((HK.out.below hbA).alloc (.cells #[sv t] 9))
      have G3 := Lib.hid ((HG.out.below hbA).alloc (.cells #[sv t] 9))
      have X3 := Lib.hid ((hkx.below hba).alloc (.cells #[sv t] 9))
      have HSZ : Hid (w.heap.size + 1 ≤ (wa.alloc (.cells #[sv t] 9)).heap.size) := Lib.hid (by have := K3.out.lt; omega)
      have d1 := (hkx.below hba).cell 0
      clear A1 hkx hbx
      go_wp2_with (at_builtin; go_must (refine wpList_append_own _ rfl _ _ 43 rfl (w.heap.size + 1) 9 si _ 1 16 Tryz.underlying43 hsi jy0 jy1 jy2 rfl (by decide) _ _ _ rfl hownA ⟨wa.heap.size, 0, none⟩ 1 1 [sv t] rfl rfl hnews (by simp [Value.oneCell']) (by unfold maxLen; omega) (by omega) HSZ.out ?_); intro v4 w5 hown5 hgrow5 _; obtain ⟨g6, c6, rfl⟩ := ownsRow_succ hown5; have B5 := Lib.hid (B3.out.grown hgrow5 B3.out.size (fun k e => by have := (hownA.lt k e).1; omega)); have KG : ∀ (q : Nat) (ty : TypeId) (cs : Array Value), ty ≠ 9 → Blk (wa.alloc (.cells #[sv t] 9)) q ty cs → Blk w5 q ty cs := (fun q ty cs hty hq => (hgrow5.block _ hq.lt (fun e => vown_ne hownA hq (fun e2 => hty e2.symm) e.symm)).trans hq); have K5 := Lib.hid (KG _ _ _ (by decide) K3.out); have G5 := KG _ _ _ (by decide) G3.out; have X5 := KG _ _ _ (by decide) X3.out; have W6 : Hid ((w5.setCell ⟨gN, j, none⟩ (vu xk)).ownsRow (w.heap.size + 1) 9 1 (.slice (some ⟨g6, 0, none⟩) (j + 1 + 1) c6) (j + 1 + 1) (sv y9 :: ((D.take (j + 1)).map sv))) := Lib.hid (by rw [HTD.out]; exact vown_kept hown5 (fun q hq => Below.heap_setCell w5 ⟨gN, j, none⟩ (vu xk) q (fun e => vown_ne hown5 G5 (by decide) (by rw [hq]; exact congrArg some e)))); have x0 := X5.cell 0; have p0 := G5.frozen j; have p1 : w5.cell? ⟨gN, j, none⟩ = some (vu ((vfill K j).getD j 0)) := (by rw [G5.cell j, List.getElem?_toArray, vqs_at vu _ j (by have := HJK.out; simp [vfill]; omega)]); have G6 := Lib.hid (vblk_fill vu G5 HX.out); have B6 := Lib.hid (bs (b := gN) (o := j) B5.out (by have := HGN.out; omega) (vu xk)); have K6 := Lib.hid (K5.out.far (p := ⟨gN, j, none⟩) (by have := HGN.out; simp; omega) (vu xk)); clear hown5 hgrow5 hnews hownA KG G5 X5)
      exact ⟨⟨j + 1, g6, c6, by omega, by go_num, rfl, W6, G6, K6, B6⟩, by simp [intOf]; omega⟩
    · obtain rfl : n = j := by omega
      rw [HKA.out] at HG
      have HDA : D.take n = D := by rw [← HDl.out, List.take_length]
      rw [HDA] at HO
      have hnew := ba (Below.refl wr.heap.size wr) (.cells #[.int .i64 9] 3)
      have hV := blk_VR (q := vu) (HG.out.alloc (.cells #[.int .i64 9] 3))
      have hBn := ba HB.out (.cells #[.int .i64 9] 3)
      have TH1 := Lib.hid (TH.out _ _ hV hBn)
      have O1 := yown_one (base := w.heap.size + 1) (Blk.new wr 3 #[.int .i64 9]) (by have := HK.out.lt; omega)
      clear hV hlt HDA HKA HR HDT HKX TL
      go_wp2_with fail
      refine TH1.out.mono ?_
      rintro e wb ⟨gH, rfl, hkH, hbH⟩
      have O2 := own_later O1 hbH
      have L2 := own_later HO.out (bt hnew hbH)
      have K2 := (HK.out.alloc (.cells #[.int .i64 9] 3)).below hbH
      have B2 := bt hBn hbH
      have hnews : ∀ (i : Nat) (u : Value), (HH.map vi)[i]? = some u → wb.cell? ((⟨gH, 0, none⟩ : Addr).add i) = some u := by simpa using World.news_of_block hkH
      have hls : (HH.map vi).length = n * 1 := by rw [List.length_map, HHl.out, Nat.mul_one]
      have hone : ∀ u ∈ HH.map vi, u.oneCell' = true := by
        intro u hu
        rw [List.mem_map] at hu
        obtain ⟨y, _, rfl⟩ := hu
        rfl
      have HSZ : Hid (w.heap.size + 1 ≤ wb.heap.size) := Lib.hid (by have := K2.lt; omega)
      have HEND : Hid (∀ (v4 : Value) (w5 : World), w5.ownsRow (w.heap.size + 1) 3 1 v4 (1 + n) ([.int .i64 9] ++ HH.map vi) → wb.grownBy w5 (Value.slice (some ⟨wr.heap.size, 0, none⟩) 1 1).ownBlock →
          ∃ A6 c6, v4 = .slice A6 (n + 1) c6 ∧ Blk w5 w.heap.size 85 #[.slice none 0 0, .slice none 0 0] ∧ (n + 1 ≤ c5 ∧ n + 1 ≤ c6) ∧ SR ((w5.setCell ⟨w.heap.size, 0, none⟩ (.slice (some ⟨g5, 0, none⟩) (n + 1) c5)).setCell ⟨w.heap.size, 1, none⟩ (.slice A6 (n + 1) c6)) (some ⟨g5, 0, none⟩) (y9 :: D) ∧ VR vi ((w5.setCell ⟨w.heap.size, 0, none⟩ (.slice (some ⟨g5, 0, none⟩) (n + 1) c5)).setCell ⟨w.heap.size, 1, none⟩ (.slice A6 (n + 1) c6)) A6 (9 :: HH) ∧ Below w.heap.size w ((w5.setCell ⟨w.heap.size, 0, none⟩ (.slice (some ⟨g5, 0, none⟩) (n + 1) c5)).setCell ⟨w.heap.size, 1, none⟩ (.slice A6 (n + 1) c6))) := Lib.hid fun v4 w5 hown5 hgrow5 => by
        rw [Nat.add_comm 1 n] at hown5
        obtain ⟨A6, c6, rfl, hA6⟩ := own_form hown5
        have K5 : Blk w5 w.heap.size 85 #[.slice none 0 0, .slice none 0 0] := (hgrow5.block _ K2.lt (fun e => by have h1 := (O2.lt _ e.symm).1; omega)).trans K2
        have L5 := vown_kept L2 (fun q hq => hgrow5.block q (L2.lt q hq).2 (fun e => by
          obtain ⟨_, cs, hb9⟩ := vown_blk L2 q hq
          exact vown_ne O2 hb9 (by decide) e.symm))
        have L6 := yown_far (g := w.heap.size) (o := 1) (yown_far (g := w.heap.size) (o := 0) L5 (by omega) (.slice (some ⟨g5, 0, none⟩) (n + 1) c5)) (by omega) (.slice A6 (n + 1) c6)
        have H6 := yown_far (g := w.heap.size) (o := 1) (yown_far (g := w.heap.size) (o := 0) hown5 (by omega) (.slice (some ⟨g5, 0, none⟩) (n + 1) c5)) (by omega) (.slice A6 (n + 1) c6)
        refine ⟨A6, c6, rfl, K5, ⟨?_, ?_⟩, own_SR' (L := y9 :: D) L6 (by rw [List.length_cons, HDl.out]), own_VR (q := vi) (L := 9 :: HH) H6 (by rw [List.length_cons, HHl.out]), bs (b := w.heap.size) (o := 1) (bs (b := w.heap.size) (o := 0) (B2.grown hgrow5 B2.size (fun k e => by have := (O2.lt k e).1; omega)) (Nat.le_refl _) (.slice (some ⟨g5, 0, none⟩) (n + 1) c5)) (Nat.le_refl _) (.slice A6 (n + 1) c6)⟩
        · obtain ⟨A', c', e, hh⟩ := own_form L5
          injection e with _ _ e3
          subst e3
          rcases hh with ⟨_, h1, _⟩ | ⟨_, _, h1, _⟩
          · omega
          · exact h1
        · rcases hA6 with ⟨_, h1, _⟩ | ⟨_, _, h1, _⟩
          · omega
          · exact h1
      have HFR : Hid (∀ a, (some ⟨g5, 0, none⟩ : Option Addr) = some a → w.heap.size ≤ a.block) := Lib.hid fun a e => by
        cases e
        have h1 := (L2.lt g5 rfl).1
        show w.heap.size ≤ g5
        omega
      clear L2 K2 B2 hbH hkH O1 hBn hnew
      go_wp2_with (at_builtin; go_must (refine wpList_append_own _ rfl _ _ 36 rfl (w.heap.size + 1) 3 ti _ 1 8 Tryz.underlying36 hti hz0 hz1 hz2 rfl (by decide) _ _ _ rfl O2 ⟨gH, 0, none⟩ n n (HH.map vi) rfl hls hnews hone (by unfold maxLen; omega) (by omega) HSZ.out ?_); intro v4 w5 hown5 hgrow5 _; obtain ⟨A6, c6, rfl, K5, hE⟩ := HEND.out v4 w5 hown5 hgrow5; have HE := Lib.hid hE; have q0 := K5.cell 0; have q1 := K5.cell 1; have f0 := K5.frozen 0; have f1 := K5.frozen 1; have K6 := Lib.hid ((K5.set_ 0 (.slice (some ⟨g5, 0, none⟩) (n + 1) c5)).set_ 1 (.slice A6 (n + 1) c6)); clear hown5 hgrow5 hE K5 hnews hone hls)
      refine bodyPost_ret (yrow_result rfl K6.out) rfl ?_
      exact ⟨_, c5, A6, c6, rfl, HE.out.1.1, HE.out.1.2, HFR.out, HE.out.2.1, HE.out.2.2.1, HE.out.2.2.2⟩
end Go.Proofs.YtjonhenllhnibaaGreatDoor
/- The contracts of Row and Root. -/
namespace Go.Proofs.YtjonhenllhnibaaGreatDoor
open Go.RowKit

/-- What Row tells, and what it makes. -/
def yrowE (Z : List ItL) (lev : Int) : Int := if ¬ IRt Z then 1 else if ¬ (0 ≤ lev ∧ lev ≤ 8) then 2 else 0
def yrowRes (k : List UInt8) (Z : List ItL) (lev : Int) : List (List UInt8) := if yrowE Z lev = 0 then yrowL k Z lev.toNat else []
theorem yrowE_bad {Z : List ItL} {lev : Int} (k : List UInt8) (h : ¬ IRt Z) : yrowE Z lev = 1 ∧ yrowRes k Z lev = [] := by
  have e : yrowE Z lev = 1 := by rw [yrowE, if_pos h]
  exact ⟨e, by rw [yrowRes, if_neg (by omega)]⟩
theorem yrowE_range {Z : List ItL} {lev : Int} (k : List UInt8) (h : IRt Z) (h2 : ¬ (0 ≤ lev ∧ lev ≤ 8)) : yrowE Z lev = 2 ∧ yrowRes k Z lev = [] := by
  have e : yrowE Z lev = 2 := by rw [yrowE, if_neg (fun hh => hh h), if_pos h2]
  exact ⟨e, by rw [yrowRes, if_neg (by omega)]⟩
theorem yrowE_yes {Z : List ItL} (lev : Nat) (k : List UInt8) (h : IRt Z) (h2 : lev ≤ 8) : yrowE Z (lev : Int) = 0 ∧ yrowRes k Z (lev : Int) = yrowL k Z lev := by
  have e : yrowE Z (lev : Int) = 0 := by rw [yrowE, if_neg (fun hh => hh h), if_neg (fun hh => hh ⟨by omega, by omega⟩)]
  exact ⟨e, by rw [yrowRes, if_pos e]; rfl⟩
def yrootE (Z : List ItL) : Int := if IRt Z then 0 else 1
def yrootRes (k : List UInt8) (Z : List ItL) : List UInt8 := if IRt Z then yroot k Z else []

/-- A block of two slices holds no text, and no number. -/
theorem yslices_at {W : World} {b : Nat} {t : TypeId} {a1 a2 : Option Addr} {n1 c1 n2 c2 : Nat} (hb : Blk W b t #[.slice a1 n1 c1, .slice a2 n2 c2]) (j : Nat) (v : Value) (h : W.cell? ⟨b, j, none⟩ = some v) : ∃ a n c, v = .slice a n c := by
  rw [hb.cell j] at h
  match j, h with
  | 0, h => exact ⟨_, _, _, (by simpa using h.symm)⟩
  | 1, h => exact ⟨_, _, _, (by simpa using h.symm)⟩
  | j + 2, h => simp at h
theorem SR.setB {W : World} {A : Option Addr} {L : List (List UInt8)} {b o : Nat} {t : TypeId} {a1 a2 : Option Addr} {n1 c1 n2 c2 : Nat} {v : Value} (h : SR W A L) (hb : Blk W b t #[.slice a1 n1 c1, .slice a2 n2 c2]) : SR (W.setCell ⟨b, o, none⟩ v) A L := fun j hj => by
  obtain ⟨g, off, e, h0⟩ := h j hj
  have hne : g ≠ b := fun e2 => by
    subst e2
    obtain ⟨_, _, _, h3⟩ := yslices_at hb _ _ h0
    cases h3
  exact ⟨g, off, e, (World.cell?_of_block (a := ⟨g, off + j, none⟩) (Below.heap_setCell W ⟨b, o, none⟩ v g hne)).trans h0⟩
theorem VR.setB {W : World} {A : Option Addr} {L : List Nat} {b o : Nat} {t : TypeId} {a1 a2 : Option Addr} {n1 c1 n2 c2 : Nat} {v : Value} (h : VR vi W A L) (hb : Blk W b t #[.slice a1 n1 c1, .slice a2 n2 c2]) : VR vi (W.setCell ⟨b, o, none⟩ v) A L := fun j hj => by
  obtain ⟨g, off, e, h0⟩ := h j hj
  have hne : g ≠ b := fun e2 => by
    subst e2
    obtain ⟨_, _, _, h3⟩ := yslices_at hb _ _ h0
    cases h3
  exact ⟨g, off, e, (World.cell?_of_block (a := ⟨g, off + j, none⟩) (Below.heap_setCell W ⟨b, o, none⟩ v g hne)).trans h0⟩

set_option maxRecDepth 100000 in
set_option maxHeartbeats 8000000 in
theorem yRow_room (k : List UInt8) (A : Option Addr) (n c lev : Nat) (Z : List ItL) (w : World) (hlev : lev ≤ 8) (hk : k.length ≤ 60000) (hA : IR w A Z) (hl : Z.length = n) (hx : ∀ x ∈ Z, x.1 < 18446744073709551616) (hr : IRt Z) (hT : VTab w) :
    Calls Tryz.prog 29 #[.string ⟨k.toArray⟩, .slice A n c, .int .i64 (lev : Int)] w fun e w' => ∃ B d, e = .returned (.tuple #[.slice B (yrowL k Z lev).length d, .int .i64 0]) ∧ (yrowL k Z lev).length ≤ d ∧ (∀ a, B = some a → w.heap.size ≤ a.block) ∧ SR w' B (yrowL k Z lev) ∧ Below w.heap.size w w' := by
  have hn : n ≤ 64 := by have := hr.1; omega
  have TR := Lib.hid (iright_any A n c Z w hA hl (by omega))
  rw [decide_eq_true hr] at TR
  have TF := Lib.hid (fun W (hb : Below w.heap.size w W) => yfirst_any k A n c Z W hk (hA.later hb) hl hn hx hr.val (hT.later hb))
  have HN : Hid (∀ (q : Nat) (A B : Option Addr) (m cA cB : Nat) (W : World), q < lev → m = (yrowL k Z q).length → SR W A (yrowL k Z q) → VR vi W B (yhts (yht k Z) q) → m ≤ cA → m ≤ cB → Calls Tryz.prog 56 #[.agg #[.slice A m cA, .slice B m cB], .int .i64 ((q : Int) + 1)] W fun e w' => ∃ A' m' c' B' d', e = .returned (.agg #[.slice A' m' c', .slice B' m' d']) ∧ m' = (yrowL k Z (q + 1)).length ∧ m' ≤ c' ∧ m' ≤ d' ∧ (∀ a, A' = some a → W.heap.size ≤ a.block) ∧ SR w' A' (yrowL k Z (q + 1)) ∧ VR vi w' B' (yhts (yht k Z) (q + 1)) ∧ Below W.heap.size W w') := Lib.hid fun q A B m cA cB W hq hm hA hB hcA hcB => by
    have h1 : (yhts (yht k Z) q).length = m := by rw [yhts_len, hm, yrowL, yrow_len]
    have h2 : yhi (yhts (yht k Z) q) (q + 1) m = yhi (yhts (yht k Z) q) (q + 1) (yhts (yht k Z) q).length := by rw [h1]
    have h3 := yrow_step (ybase Z) (yht k Z) q
    have h4 := yhts_step (yht k Z) q
    rw [h1] at h3 h4
    have h5 : (yhi (yhts (yht k Z) q) (q + 1) m).length = (yrowL k Z (q + 1)).length := by
      rw [yrowL, ← h3, List.length_map, ycut_len]
    have h6 := ynext_any (q + 1) m cA cB A B (yrowL k Z q) (yhts (yht k Z) q) W (by omega) hA hB hm.symm h1 hcA hcB (by have := yrowL_le k Z q; omega) (yrowL_32 k Z q) (by rw [h5]; exact yrowL_pos k Z (q + 1) (by omega))
    rw [show (((q + 1 : Nat)) : Int) = (q : Int) + 1 by omega] at h6
    refine h6.mono ?_
    rintro e w' ⟨A', c', B', d', rfl, g1, g2, g6, g3, g4, g5⟩
    refine ⟨A', _, c', B', d', rfl, h5, g1, g2, g6, ?_, ?_, g5⟩
    · rw [show yrowL k Z (q + 1) = yrow (ybase Z) (yht k Z) (q + 1) from rfl, ← h3]; exact g3
    · rw [← h4]; exact g4
  have H0 : Hid (yhead :: Z.map yleaf = yrowL k Z 0 ∧ yht k Z = yhts (yht k Z) 0) := Lib.hid ⟨(yrow_zero k Z).symm, (yhts_zero k Z).symm⟩
  rw [H0.out.1] at TF
  have HL0 : Hid ((yrowL k Z 0).length = n + 1) := Lib.hid (by rw [← H0.out.1, List.length_cons, List.length_map, hl])
  have HV0 : Hid (∀ W B, VR vi W B (yht k Z) → VR vi W B (yhts (yht k Z) 0)) := Lib.hid fun W B h => by rw [← H0.out.2]; exact h
  clear hA hx hr hT hl H0 hk
  generalize yhts (yht k Z) = U at *
  generalize yht k Z = U0 at *
  generalize yrowL k Z = T at *
  go_enter Tryz.func29, Tryz.ntmps29
  go_wp2_with fail
  refine TR.out.mono ?_
  rintro e w1 ⟨rfl, hb1⟩
  go_wp2_with fail
  refine (TF.out _ hb1).mono ?_
  rintro e w2 ⟨X, c2, Y, d2, rfl, hc2, hd2, hf2, hS2, hV2, hb2⟩
  have HF2 : Hid (∀ a, X = some a → w.heap.size ≤ a.block) := Lib.hid fun a e => Nat.le_trans hb1.size (hf2 a e)
  clear hf2
  have HS2 := Lib.hid hS2
  have HV2 := Lib.hid (HV0.out _ _ hV2)
  have hB2 := bt hb1 hb2
  have hk2 := Blk.new w2 85 #[.slice X (n + 1) c2, .slice Y (n + 1) d2]
  have hw2 := ba (Below.refl w2.heap.size w2) (.cells #[.slice X (n + 1) c2, .slice Y (n + 1) d2] 85)
  have HBr : Hid (w.heap.size ≤ w2.heap.size) := Lib.hid hB2.size
  have HK3 := Lib.hid hk2
  have HS3 := Lib.hid (HS2.out.later hw2)
  have HV3 := Lib.hid (HV2.out.later hw2)
  have HB3 := Lib.hid (bt hB2 hw2)
  clear hS2 hV2 hb2 hk2 hw2 hB2 HS2 HV2
  have l0 : ¬ (lev : Int) < 0 := by omega
  have l8 : ¬ (8 : Int) < (lev : Int) := by omega
  go_wp2_with fail
  generalize w2.alloc (.cells #[.slice X (n + 1) c2, .slice Y (n + 1) d2] 85) = w3 at HK3 HS3 HV3 HB3 ⊢
  generalize w2.heap.size = br at HK3 HBr ⊢
  go_loopw [9] (fun iv wr => ∃ (q m cA cB : Nat) (A B : Option Addr), q ≤ lev ∧ iv = .int .i64 ((q : Int) + 1) ∧ Hid (Blk wr br 85 #[.slice A m cA, .slice B m cB]) ∧ Hid ((m = (T q).length ∧ m ≤ cA ∧ m ≤ cB) ∧ ∀ a, A = some a → w.heap.size ≤ a.block) ∧ Hid (SR wr A (T q)) ∧ Hid (VR vi wr B (U q)) ∧ Hid (Below w.heap.size w wr)) (fun i _ => lev + 1 - (intOf i).toNat)
  case atStart => exact ⟨0, n + 1, c2, d2, X, Y, Nat.zero_le _, rfl, HK3, Lib.hid ⟨⟨HL0.out.symm, hc2, hd2⟩, HF2.out⟩, HS3, HV3, HB3⟩
  case round =>
    clear HK3 HS3 HV3 HB3
    obtain ⟨q, m, cA, cB, A3, B3, hq, rfl, HK, HM, HS, HV, HB⟩ := hrel
    have k0 := HK.out.cell 0
    have k1 := HK.out.cell 1
    simp only [List.getElem?_toArray, List.getElem?_cons_zero, List.getElem?_cons_succ] at k0 k1
    by_cases hlt : q < lev
    · have TN := Lib.hid (HN.out q A3 B3 m cA cB wr hlt HM.out.1.1 HS.out HV.out HM.out.1.2.1 HM.out.1.2.2)
      have i1 : (q : Int) + 1 ≤ (lev : Int) := by omega
      clear hc2 hd2
      go_wp2_with fail
      refine TN.out.mono ?_
      rintro e w5 ⟨A5, m5, c5, B5, d5, rfl, hm5, hc5, hd5, hf5, hS5, hV5, hb5⟩
      have K5 := HK.out.below hb5
      have f0 := K5.frozen 0
      have f1 := K5.frozen 1
      have q0 := K5.cell 0
      have q1 := K5.cell 1
      simp only [List.getElem?_toArray, List.getElem?_cons_zero, List.getElem?_cons_succ] at q0 q1
      have K6 := K5.set_ 0 (.slice A5 m5 c5)
      have HK7 := Lib.hid (K6.set_ 1 (.slice B5 m5 d5))
      have HS7 := Lib.hid (SR.setB (o := 1) (v := .slice B5 m5 d5) (SR.setB (o := 0) (v := .slice A5 m5 c5) hS5 K5) K6)
      have HV7 := Lib.hid (VR.setB (o := 1) (v := .slice B5 m5 d5) (VR.setB (o := 0) (v := .slice A5 m5 c5) hV5 K5) K6)
      have HB7 := Lib.hid (bs (b := br) (o := 1) (bs (b := br) (o := 0) (bt HB.out hb5) HBr.out (.slice A5 m5 c5)) HBr.out (.slice B5 m5 d5))
      have HM7 := Lib.hid (And.intro (And.intro hm5 (And.intro hc5 hd5)) (fun a e => Nat.le_trans HB.out.size (hf5 a e)))
      clear hf5 hS5 hV5 hb5 K5 K6 hm5 hc5 hd5 k0 k1
      go_wp2_with fail
      exact ⟨⟨q + 1, m5, c5, d5, A5, B5, by omega, by go_num, HK7, HM7, HS7, HV7, HB7⟩, by simp [intOf]; omega⟩
    · obtain rfl : lev = q := by omega
      have i1 : ¬ (lev : Int) + 1 ≤ (lev : Int) := by omega
      clear hc2 hd2
      go_wp2_with fail
      go_ret2
      exact ⟨A3, cA, by rw [← HM.out.1.1]; rfl, by rw [← HM.out.1.1]; exact HM.out.1.2.1, HM.out.2, HS.out, HB.out⟩
theorem yRow_yes (k : List UInt8) (A : Option Addr) (n c lev : Nat) (Z : List ItL) (w : World) (hlev : lev ≤ 8) (hk : k.length ≤ 60000) (hA : IR w A Z) (hl : Z.length = n) (hx : ∀ x ∈ Z, x.1 < 18446744073709551616) (hr : IRt Z) (hT : VTab w) :
    Calls Tryz.prog 29 #[.string ⟨k.toArray⟩, .slice A n c, .int .i64 (lev : Int)] w fun e w' => ∃ B d, e = .returned (.tuple #[.slice B (yrowL k Z lev).length d, .int .i64 0]) ∧ SR w' B (yrowL k Z lev) ∧ Below w.heap.size w w' :=
  (yRow_room k A n c lev Z w hlev hk hA hl hx hr hT).mono fun _ _ ⟨B, d, h1, _, _, h2, h3⟩ => ⟨B, d, h1, h2, h3⟩

set_option maxRecDepth 100000 in
set_option maxHeartbeats 2000000 in
theorem yRow_bad (k : ByteArray) (A : Option Addr) (n c : Nat) (lev : Int) (Z : List ItL) (w : World) (hA : IR w A Z) (hl : Z.length = n) (hn : n ≤ 65536) (hr : ¬ IRt Z) :
    Calls Tryz.prog 29 #[.string k, .slice A n c, .int .i64 lev] w fun e w' => e = .returned (.tuple #[.slice none 0 0, .int .i64 1]) ∧ Below w.heap.size w w' := by
  have TR := Lib.hid (iright_any A n c Z w hA hl hn)
  rw [decide_eq_false hr] at TR
  clear hA hr hl
  go_enter Tryz.func29, Tryz.ntmps29
  go_wp2_with fail
  refine TR.out.mono ?_
  rintro e w1 ⟨rfl, hb1⟩
  go_wp2
  go_ret2
  exact ⟨rfl, hb1⟩
set_option maxRecDepth 100000 in
set_option maxHeartbeats 2000000 in
theorem yRow_range (k : ByteArray) (A : Option Addr) (n c : Nat) (lev : Int) (Z : List ItL) (w : World) (hA : IR w A Z) (hl : Z.length = n) (hn : n ≤ 65536) (hr : IRt Z) (hlev : ¬ (0 ≤ lev ∧ lev ≤ 8)) :
    Calls Tryz.prog 29 #[.string k, .slice A n c, .int .i64 lev] w fun e w' => e = .returned (.tuple #[.slice none 0 0, .int .i64 2]) ∧ Below w.heap.size w w' := by
  have TR := Lib.hid (iright_any A n c Z w hA hl hn)
  rw [decide_eq_true hr] at TR
  clear hA hr hl
  go_enter Tryz.func29, Tryz.ntmps29
  go_wp2_with fail
  refine TR.out.mono ?_
  rintro e w1 ⟨rfl, hb1⟩
  by_cases h0 : lev < 0
  · go_wp2
    go_ret2
    exact ⟨rfl, hb1⟩
  · have h8 : 8 < lev := by omega
    clear hlev
    go_wp2
    go_ret2
    exact ⟨rfl, hb1⟩
theorem yRow_any (k : List UInt8) (A : Option Addr) (n c : Nat) (lev : Int) (Z : List ItL) (w : World) (hk : k.length ≤ 60000) (hA : IR w A Z) (hl : Z.length = n) (hn : n ≤ 65536) (hx : ∀ x ∈ Z, x.1 < 18446744073709551616) (hT : VTab w) :
    Calls Tryz.prog 29 #[.string ⟨k.toArray⟩, .slice A n c, .int .i64 lev] w fun e w' => ∃ B d, e = .returned (.tuple #[.slice B (yrowRes k Z lev).length d, .int .i64 (yrowE Z lev)]) ∧ SR w' B (yrowRes k Z lev) ∧ Below w.heap.size w w' := by
  by_cases hr : IRt Z
  · by_cases hlev : 0 ≤ lev ∧ lev ≤ 8
    · obtain ⟨q, rfl⟩ : ∃ q : Nat, lev = (q : Int) := ⟨lev.toNat, by omega⟩
      obtain ⟨e1, e2⟩ := yrowE_yes q k hr (by omega)
      rw [e1, e2]
      exact yRow_yes k A n c q Z w (by omega) hk hA hl hx hr hT
    · obtain ⟨e1, e2⟩ := yrowE_range k hr hlev
      rw [e1, e2]
      exact (yRow_range _ A n c lev Z w hA hl hn hr hlev).mono fun e w' ⟨h1, h2⟩ => ⟨none, 0, h1, SR.nil _ _, h2⟩
  · obtain ⟨e1, e2⟩ := yrowE_bad (lev := lev) k hr
    rw [e1, e2]
    exact (yRow_bad _ A n c lev Z w hA hl hn hr).mono fun e w' ⟨h1, h2⟩ => ⟨none, 0, h1, SR.nil _ _, h2⟩

set_option maxRecDepth 100000 in
set_option maxHeartbeats 2000000 in
theorem yRoot_any (k : List UInt8) (A : Option Addr) (n c : Nat) (Z : List ItL) (w : World) (hk : k.length ≤ 60000) (hA : IR w A Z) (hl : Z.length = n) (hn : n ≤ 65536) (hx : ∀ x ∈ Z, x.1 < 18446744073709551616) (hT : VTab w) :
    Calls Tryz.prog 22 #[.string ⟨k.toArray⟩, .slice A n c] w fun e w' => e = .returned (.tuple #[.string ⟨(yrootRes k Z).toArray⟩, .int .i64 (yrootE Z)]) ∧ Below w.heap.size w w' := by
  by_cases hr : IRt Z
  · have TR := Lib.hid (show Calls Tryz.prog 29 #[.string ⟨k.toArray⟩, .slice A n c, .int .i64 8] w _ from yRow_yes k A n c 8 Z w (by omega) hk hA hl hx hr hT)
    have HL := Lib.hid (yrow_last k Z)
    have e1 : yrootE Z = 0 := by rw [yrootE, if_pos hr]
    have e2 : yrootRes k Z = yroot k Z := by rw [yrootRes, if_pos hr]
    rw [e1, e2]
    clear e1 e2 hA hl hx hT hr hk
    rw [HL.out] at TR
    clear HL
    generalize yroot k Z = t at *
    go_enter Tryz.func22, Tryz.ntmps22
    go_wp2_with fail
    refine TR.out.mono ?_
    rintro e w1 ⟨B, d, rfl, hS, hb1⟩
    obtain ⟨g, off, rfl, c0⟩ := hS 0 (by simp)
    rw [Nat.add_zero] at c0
    simp only [List.getD_cons_zero] at c0
    clear hS
    go_wp2
    go_ret2
    exact ⟨rfl, hb1⟩
  · have TR := Lib.hid (show Calls Tryz.prog 29 #[.string ⟨k.toArray⟩, .slice A n c, .int .i64 8] w _ from yRow_bad _ A n c 8 Z w hA hl hn hr)
    have e1 : yrootE Z = 1 := by rw [yrootE, if_neg hr]
    have e2 : yrootRes k Z = [] := by rw [yrootRes, if_neg hr]
    rw [e1, e2]
    clear e1 e2 hA hl hx hT hr hk
    go_enter Tryz.func22, Tryz.ntmps22
    go_wp2_with fail
    refine TR.out.mono ?_
    rintro e w1 ⟨rfl, hb1⟩
    go_wp2
    go_ret2
    exact ⟨rfl, hb1⟩
end Go.Proofs.YtjonhenllhnibaaGreatDoor
/- The contracts of the reference's List, Row and Root. -/
namespace Go.Proofs.YtjonhenllhnibaaGreatDoor
open Go.RowKit

theorem yt_result {fn : Func} {p : Tmp} {tmps : Array Value} {W : World} {g : Nat} {x y : Value} (h : fn.results = #[.cell p 38]) (hb : Blk W g 38 #[x, y]) (hp : tmps.getD p undef = .pointer (some ⟨g, 0, none⟩) := by rfl) :
    (results fn tmps).run Tryz.prog W = .ok (.agg #[x, y]) W := by
  have q0 := hb.cell 0
  have q1 := hb.cell 1
  simp only [List.getElem?_toArray, List.getElem?_cons_zero, List.getElem?_cons_succ] at q0 q1
  simp only [Array.getD_eq_getD_getElem?] at hp
  simp [results, h, go_sem, hp, q0, q1]

set_option maxRecDepth 100000 in
set_option maxHeartbeats 4000000 in
theorem yrlist_any (k : List UInt8) (A : Option Addr) (n c : Nat) (Z : List ItL) (w : World) (hk : k.length ≤ 60000) (hA : IR w A Z) (hl : Z.length = n) (hn : n ≤ 1024) (hx : ∀ x ∈ Z, x.1 < 18446744073709551616) :
    Calls Tryz.prog 15 #[.string ⟨k.toArray⟩, .slice A n c] w fun e w' => ∃ g cB, e = .returned (ytv A (some ⟨g, 0, none⟩) n c cB) ∧ VR vi w' (some ⟨g, 0, none⟩) (hsL k (ikeys Z)) ∧ Below w.heap.size w w' := by
  have HKl : Hid ((ikeys Z).length = n) := Lib.hid (by rw [ikeys_len, hl])
  have HXl : ∀ x ∈ ikeys Z, x < 18446744073709551616 := fun x hx2 => by
    simp only [ikeys, List.mem_map] at hx2
    obtain ⟨y, hy, rfl⟩ := hx2
    exact hx y hy
  have TK := Lib.hid (fun W (hW : Below w.heap.size w W) => irkeys_any A n c Z W (hA.later hW) hl (by omega))
  have TH := Lib.hid (fun B d W (hB : VR vu W B (ikeys Z)) => vrheights_any k B n d (ikeys Z) W hk hB HKl.out HXl (by omega))
  have HHl : Hid ((hsL k (ikeys Z)).length = n) := Lib.hid (by rw [hsL_len, HKl.out])
  clear hA hl hx hk HXl
  generalize hsL k (ikeys Z) = HH at *
  generalize ikeys Z = K at *
  have hk0 := Blk.new w 38 #[.slice none 0 0, .slice none 0 0]
  have hb0 := ba (Below.refl w.heap.size w) (.cells #[.slice none 0 0, .slice none 0 0] 38)
  go_enter Tryz.func15, Tryz.ntmps15
  go_wp2_with fail
  refine (TK.out _ hb0).mono ?_
  rintro e w1 ⟨g1, c1, rfl, ho1, hb1⟩
  have hV1 := own_VR (q := vu) ho1 HKl.out
  have hk1 := hk0.below hb1
  have hB1 := bt hb0 hb1
  clear ho1 hk0 hb0
  go_wp2_with fail
  refine (TH.out _ _ _ hV1).mono ?_
  rintro e w2 ⟨g2, c2, rfl, ho2, hb2⟩
  have hV2 := own_VR (q := vi) ho2 HHl.out
  have hk2 := hk1.below hb2
  have hB2 := bt hB1 hb2
  have hg2 : g2 ≠ w.heap.size := by
    have h1 := (ho2.lt g2 rfl).1
    have h2 := hk1.lt
    omega
  have k0 := hk2.cell 0
  have k1 := hk2.cell 1
  have f0 := hk2.frozen 0
  have f1 := hk2.frozen 1
  have KK := Lib.hid ((hk2.set_ 0 (.slice A n c)).set_ 1 (.slice (some ⟨g2, 0, none⟩) n c2))
  have HB := Lib.hid (bs (b := w.heap.size) (o := 1) (bs (b := w.heap.size) (o := 0) hB2 (Nat.le_refl _) (.slice A n c)) (Nat.le_refl _) (.slice (some ⟨g2, 0, none⟩) n c2))
  have HV := Lib.hid (show VR vi ((w2.setCell ⟨w.heap.size, 0, none⟩ (.slice A n c)).setCell ⟨w.heap.size, 1, none⟩ (.slice (some ⟨g2, 0, none⟩) n c2)) (some ⟨g2, 0, none⟩) HH from hV2.kp fun a e => by
    cases e
    exact (Below.heap_setCell _ ⟨w.heap.size, 1, none⟩ _ g2 hg2).trans (Below.heap_setCell _ ⟨w.heap.size, 0, none⟩ _ g2 hg2))
  clear ho2 hV1 hV2 hk1 hk2 hB1 hB2 hb1 hb2 hg2
  go_wp2_with fail
  refine bodyPost_ret (yt_result rfl KK.out) rfl ?_
  exact ⟨g2, c2, rfl, HV.out, HB.out⟩

end Go.Proofs.YtjonhenllhnibaaGreatDoor
