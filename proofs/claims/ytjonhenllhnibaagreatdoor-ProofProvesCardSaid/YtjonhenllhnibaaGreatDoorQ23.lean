/- Texts of this seat, one behind the other: PFew, PNums, PStand. -/
import Derived.Deep.RegionHeld3
import Derived.BigQuiet
import Derived.Test.YtjonhenllhnibaaGreatDoorQ13
import Derived.Test.YtjonhenllhnibaaGreatDoorQ14
import Derived.Test.YtjonhenllhnibaaGreatDoorQ17
import Derived.Test.YtjonhenllhnibaaGreatDoorQ18
import Derived.Test.YtjonhenllhnibaaGreatDoorQ19
import Derived.Test.YtjonhenllhnibaaGreatDoorQ22
/- The contracts of the law's cut and few. -/
namespace Go.Proofs.YtjonhenllhnibaaGreatDoor
open Go.RowKit

/-- A row of rows that can be read, all of whose blocks lie from one on. -/
def LF (base : Nat) (W : World) (A : Option Addr) (G : List (List (List UInt8))) : Prop :=
  (∀ a, A = some a → base ≤ a.block) ∧ ∀ i, i < G.length → ∃ g off B d, A = some ⟨g, off, none⟩ ∧ W.cell? ⟨g, off + i, none⟩ = some (.slice B (G.getD i []).length d) ∧ (G.getD i []).length ≤ d ∧ SR W B (G.getD i []) ∧ ∀ a, B = some a → base ≤ a.block
theorem LF.lr {base : Nat} {W : World} {A : Option Addr} {G : List (List (List UInt8))} (h : LF base W A G) : LR W A G := fun i hi => by
  obtain ⟨g, off, B, d, e, h0, h1, h2, _⟩ := h.2 i hi
  exact ⟨g, off, B, d, e, h0, h1, h2⟩
theorem LF.kp {base : Nat} {W W' : World} {A : Option Addr} {G : List (List (List UInt8))} (h : LF base W A G) (hk : ∀ k, base ≤ k → k < W.heap.size → W'.heap[k]? = W.heap[k]?) : LF base W' A G :=
  ⟨h.1, fun i hi => by
    obtain ⟨g, off, B, d, e, h0, h1, h2, h3⟩ := h.2 i hi
    refine ⟨g, off, B, d, e, ?_, h1, fun j hj => ?_, h3⟩
    · exact (World.cell?_of_block (a := ⟨g, off + i, none⟩) (hk g (h.1 _ e) (World.block_lt_of_cell? _ _ h0))).trans h0
    · obtain ⟨g2, off2, e2, c2⟩ := h2 j hj
      exact ⟨g2, off2, e2, (World.cell?_of_block (a := ⟨g2, off2 + j, none⟩) (hk g2 (h3 _ e2) (World.block_lt_of_cell? _ _ c2))).trans c2⟩⟩
theorem LF.later {base : Nat} {W W' : World} {A : Option Addr} {G : List (List (List UInt8))} (h : LF base W A G) (hb : Below W.heap.size W W') : LF base W' A G := h.kp fun k _ hk => hb.block k hk
theorem LF.base {base base' : Nat} {W : World} {A : Option Addr} {G : List (List (List UInt8))} (h : LF base W A G) (hb : base' ≤ base) : LF base' W A G :=
  ⟨fun a e => Nat.le_trans hb (h.1 a e), fun i hi => by
    obtain ⟨g, off, B, d, e, h0, h1, h2, h3⟩ := h.2 i hi
    exact ⟨g, off, B, d, e, h0, h1, h2, fun a e9 => Nat.le_trans hb (h3 a e9)⟩⟩
/-- A cell ahead of them is written. -/
theorem LF.set_ {base b o : Nat} {W : World} {A : Option Addr} {G : List (List (List UInt8))} {v : Value} (h : LF base W A G) (hb : b < base) : LF base (W.setCell ⟨b, o, none⟩ v) A G :=
  h.kp fun k hk _ => Below.heap_setCell W ⟨b, o, none⟩ v k (by show k ≠ b; omega)
theorem GO.lf {W : World} {base b c n : Nat} {A : Option Addr} {Vs : List Value} {G : List (List (List UInt8))} (h : GO W base b Vs G) (hr : W.ownsRow base 43 1 (.slice A n c) n Vs) (hn : G.length = n) : LF base W A G :=
  ⟨fun a e => by subst e; exact (hr.lt a.block rfl).1, fun i hi => by
    obtain ⟨v, h1, h2, _⟩ := h.2 i hi
    obtain ⟨A', c', e, hh⟩ := own_form hr
    injection e with e1 _ e3
    subst e1
    subst e3
    rcases hh with ⟨_, h0, _⟩ | ⟨g, rfl, _⟩
    · omega
    · obtain ⟨B, d, rfl, h3⟩ := own_form h2
      exact ⟨g, 0, B, d, rfl, by rw [Nat.zero_add, hr.cellAt i (by omega)]; exact h1, by rcases h3 with ⟨_, h4, h5⟩ | ⟨_, _, h4, _⟩ <;> omega, own_SR' h2 rfl, fun a e => by subst e; exact (h2.lt a.block rfl).1⟩⟩
/-- Few of the rows, of the labels, of their bytes. -/
def pcutR (R : List (List UInt8)) : List (List UInt8) := (R.take 66).map fun s => s.take 40
def pcut (G : List (List (List UInt8))) : List (List (List UInt8)) := (G.take 9).map pcutR
theorem pcut_len (G : List (List (List UInt8))) : (pcut G).length = min G.length 9 := by simp [pcut, Nat.min_comm]
theorem pcutR_len (R : List (List UInt8)) : (pcutR R).length = min R.length 66 := by simp [pcutR, Nat.min_comm]
theorem pcut_small (G : List (List (List UInt8))) : (pcut G).length ≤ 9 ∧ ∀ j, ((pcut G).getD j []).length ≤ 66 := by
  refine ⟨by rw [pcut_len]; omega, fun j => ?_⟩
  by_cases hj : j < (pcut G).length
  · have e : (pcut G).getD j [] = (pcut G)[j] := by simp [List.getD, hj]
    have h := List.getElem_mem hj
    simp only [pcut, List.mem_map] at h
    obtain ⟨R, _, hR⟩ := h
    rw [e]
    have h2 : (pcut G)[j].length = (pcutR R).length := by
      have : pcutR R = (pcut G)[j] := hR
      rw [this]
    rw [h2, pcutR_len]
    omega
  · have e : (pcut G).getD j [] = [] := by simp [List.getD, List.getElem?_eq_none (Nat.le_of_not_lt hj)]
    rw [e]
    simp
theorem ptext_cut (x : List UInt8) : ∃ a, min x.length 40 = a ∧ a ≤ x.length ∧ (⟨x.toArray⟩ : ByteArray).extract 0 a = ⟨(x.take 40).toArray⟩ := by
  refine ⟨min x.length 40, rfl, by omega, ?_⟩
  have he : x.take (min x.length 40) = x.take 40 := by
    by_cases h : x.length ≤ 40
    · rw [Nat.min_eq_left h, List.take_of_length_le (Nat.le_refl _), List.take_of_length_le h]
    · rw [Nat.min_eq_right (by omega)]
  rw [extract_take, he]
theorem prcut_run (A : Option Addr) (len cap m : Nat) (hm : m ≤ cap) (W : World) : (Instr.slice 24 (.slice A len cap) none (some (.int .i64 (m : Int))) none).run Tryz.prog W = .ok (.slice A m cap) W := by
  obtain ⟨i, hi⟩ : ∃ i, Tryz.prog.info? 43 = some i := Option.isSome_iff_exists.1 (by kernel_rfl)
  have hb : (Instr.sliceBounds true len cap none (some (.int .i64 (m : Int))) none).run Tryz.prog W = .ok (0, m, cap) W := by
    have h1 : (0 : Int) ≤ (m : Int) ∧ (m : Int) ≤ (cap : Int) := by omega
    simp [Instr.sliceBounds, Instr.sliceBound, asIntOf, h1]
    omega
  have hA : (if cap = 0 then A else A.map fun x => x.add (0 * i.size)) = A := by
    split
    · rfl
    · cases A <;> simp [Addr.add]
  simp [Instr.slice, run_underlying (P := Tryz.prog) (w := W) Tryz.underlying24, hb, sizeOf, typeInfo, hi]
  simpa using hA

/-- Rows of rows whose lengths a machine holds. -/
structure PSmall (G : List (List (List UInt8))) : Prop where
  len : (G.length : Int) ≤ 9223372036854775807
  rows : ∀ j, ((G.getD j []).length : Int) ≤ 9223372036854775807
  texts : ∀ j i, (((G.getD j []).getD i []).length : Int) ≤ 9223372036854775807

set_option maxRecDepth 100000 in
set_option maxHeartbeats 16000000 in
theorem pcut_any (A : Option Addr) (c n : Nat) (G : List (List (List UInt8))) (w : World) (hA : LR w A G) (hl : G.length = n) (hc : n ≤ c) (hs : PSmall G) :
    Calls Tryz.prog 24 #[.slice A n c] w fun e w' => ∃ A' c', e = .returned (.slice A' (pcut G).length c') ∧ LF w.heap.size w' A' (pcut G) ∧ Below w.heap.size w w' := by
  obtain ⟨li, hli, jz0, jz1, jz2⟩ := info_parts infoSS
  obtain ⟨si, hsi, jy0, jy1, jy2⟩ := info_parts infoS
  have HA := Lib.hid (fun j W (hj : j < n) (hb : Below w.heap.size w W) => (hA.later hb) j (by omega))
  have HSR := Lib.hid hs.rows
  have HST := Lib.hid hs.texts
  have hL : (n : Int) ≤ 9223372036854775807 := by have := hs.len; omega
  obtain ⟨m, hm⟩ : ∃ m, min n 9 = m := ⟨_, rfl⟩
  have HFL : Hid ((pcut G).length = m) := Lib.hid (by rw [pcut_len, hl, hm])
  have HFT : Hid (∀ k, k < m → (pcut G).take (k + 1) = (pcut G).take k ++ [pcutR (G.getD k [])]) := Lib.hid fun k hk => by
    rw [List.take_succ_eq_append_getElem (by rw [HFL.out]; exact hk)]
    congr 2
    simp [pcut, List.getD, show k < G.length by omega]
  have HFE : Hid ((pcut G).take m = pcut G) := Lib.hid (by rw [← HFL.out, List.take_length])
  have h1 : (m : Int) ≤ (n : Int) := by omega
  have h2 : min (n : Int) 9 = (m : Int) := by omega
  have h3 : m ≤ n := by omega
  have h4 : m ≤ 9 := by omega
  have hsl := prcut_run A n c m (by omega)
  rw [HFL.out]
  clear hm hA hs hl
  go_enter Tryz.func24, Tryz.ntmps24
  go_wp2_with fail
  go_loopw [3, 15] (fun ov iv wr => ∃ (k : Nat) (B : Option Addr) (d : Nat) (Vs : List Value), k ≤ m ∧ iv = .int .i64 k ∧ ov = .slice B k d ∧ Hid (wr.ownsRow w.heap.size 43 1 (.slice B k d) k Vs) ∧ Hid (GO wr w.heap.size wr.heap.size Vs ((pcut G).take k)) ∧ Hid (Below w.heap.size w wr)) (fun _ i _ => m - (intOf i).toNat)
  case atStart => exact ⟨0, none, 0, [], Nat.zero_le _, rfl, rfl, Lib.hid (World.ownsRow_nil _ _ _ _), Lib.hid (GO.nil _ _ _), Lib.hid (Below.refl _ _)⟩
  case round =>
    obtain ⟨k, B, d, Vs, hk, rfl, rfl, HO, HG, HB⟩ := hrel
    rename World => wq
    by_cases hlt : k < m
    · obtain ⟨g, off, R, dr, rfl, c0, hd, hS⟩ := HA.out k wq (by omega) HB.out
      have HT := Lib.hid (HFT.out k hlt)
      have hr := HSR.out k
      have HX := Lib.hid (HST.out k)
      have i0 : (0 : Int) ≤ (k : Int) := by omega
      have i1 : (k : Int) < (m : Int) := by omega
      generalize G.getD k [] = x at *
      obtain ⟨xl, hxl⟩ : ∃ xl, x.length = xl := ⟨_, rfl⟩
      rw [hxl] at hr hd c0
      obtain ⟨a, ha⟩ : ∃ a, min xl 66 = a := ⟨_, rfl⟩
      have HRL : Hid ((pcutR x).length = a) := Lib.hid (by rw [pcutR_len, hxl, ha])
      have HRT : Hid (∀ i, i < a → (pcutR x).take (i + 1) = (pcutR x).take i ++ [(x.getD i []).take 40]) := Lib.hid fun i hi => by
        rw [List.take_succ_eq_append_getElem (by rw [HRL.out]; exact hi)]
        congr 2
        simp [pcutR, List.getD, show i < x.length by omega]
      have HRE : Hid ((pcutR x).take a = pcutR x) := Lib.hid (by rw [← HRL.out, List.take_length])
      have HS := Lib.hid (fun i W (hi : i < xl) (hb : Below wq.heap.size wq W) => (hS.later hb) i (by omega))
      have j1 : (a : Int) ≤ (xl : Int) := by omega
      have j2 : min (xl : Int) 66 = (a : Int) := by omega
      have j3 : a ≤ xl := by omega
      have j4 : a ≤ 66 := by omega
      have hsr := qcut_run R xl dr a (by omega)
      clear hS hxl ha
      go_wp2_with fail
      go_loopw [6, 25] (fun ov iv wr => ∃ (i : Nat) (B2 : Option Addr) (d2 : Nat), i ≤ a ∧ iv = .int .i64 i ∧ ov = .slice B2 i d2 ∧ Hid (wr.ownsRow wq.heap.size 9 1 (.slice B2 i d2) i (((pcutR x).take i).map sv)) ∧ Hid (Below wq.heap.size wq wr)) (fun _ i _ => a - (intOf i).toNat)
      case atStart => exact ⟨0, none, 0, Nat.zero_le _, rfl, rfl, Lib.hid (World.ownsRow_nil _ _ _ _), Lib.hid (Below.refl _ _)⟩
      case round =>
        obtain ⟨i, B2, d2, hi, rfl, rfl, HO2, HD⟩ := hrel
        by_cases hlt2 : i < a
        · obtain ⟨gr, orr, rfl, c1⟩ := HS.out i wr (by omega) HD.out
          have HRTi := Lib.hid (HRT.out i hlt2)
          have hxs := HX.out i
          generalize x.getD i [] = y at *
          have hzx := size_mk y
          obtain ⟨b, hb1, hb2, hex⟩ := ptext_cut y
          obtain ⟨yl, hyl⟩ : ∃ yl, y.length = yl := ⟨_, rfl⟩
          rw [hyl] at hzx hxs hb1 hb2
          generalize y.take 40 = z at *
          have k1 : min (yl : Int) 40 = (b : Int) := by omega
          have k2 : (b : Int) ≤ (yl : Int) := by omega
          have i2 : (0 : Int) ≤ (i : Int) := by omega
          have i3 : (i : Int) < (a : Int) := by omega
          have hownA := own_later HO2.out (ba (Below.refl wr.heap.size wr) (.cells #[sv z] 9))
          have hnews := World.news_of_block (heap_alloc_new wr (.cells #[sv z] 9))
          have HD3 := Lib.hid (ba HD.out (.cells #[sv z] 9))
          clear hyl hb1
          go_wp2_with (at_builtin; refine wpList_append_own _ rfl _ _ 43 rfl wq.heap.size 9 si _ 1 16 Tryz.underlying43 hsi jy0 jy1 jy2 rfl (by decide) _ _ _ rfl hownA ⟨wr.heap.size, 0, none⟩ 1 1 [sv z] rfl rfl hnews (by simp [Value.oneCell']) (by unfold maxLen; omega) (by omega) HD3.out.size ?_; intro v3 w3 hown3 hgrow3 _; obtain ⟨g3, c3, rfl⟩ := ownsRow_succ hown3)
          have HD4 := Lib.hid (HD3.out.grown hgrow3 HD3.out.size (fun q e => (hownA.lt q e).1))
          have HO4 : Hid (w3.ownsRow wq.heap.size 9 1 (.slice (some ⟨g3, 0, none⟩) (i + 1) c3) (i + 1) (((pcutR x).take (i + 1)).map sv)) := Lib.hid (by rw [HRTi.out, List.map_append]; exact hown3)
          clear hown3 hgrow3 hownA hnews HD3
          go_wp2_with fail
          exact ⟨⟨i + 1, some ⟨g3, 0, none⟩, c3, by omega, by go_num, rfl, HO4, HD4⟩, by simp [intOf]; omega⟩
        · obtain rfl : a = i := by omega
          rw [HRE.out] at HO2
          -- the row is whole: it is put to the rows
          have hOq := own_later HO.out HD.out
          have hGq := (HG.out.below HD.out).more_room HD.out.size
          have hbA := ba (Below.refl wr.heap.size wr) (.cells #[.slice B2 a d2] 43)
          have hownA := own_later hOq hbA
          have hnews := World.news_of_block (heap_alloc_new wr (.cells #[.slice B2 a d2] 43))
          have HB3 := Lib.hid (bt HB.out (HD.out.trans (hbA.mono HD.out.size)))
          clear hOq hbA c0
          go_wp2_with (at_builtin; refine wpList_append_own _ rfl _ _ 24 rfl w.heap.size 43 li (.slice none 0 0) 1 24 Tryz.underlying24 hli jz0 jz1 jz2 rfl (by decide) _ _ _ rfl hownA ⟨wr.heap.size, 0, none⟩ 1 1 [.slice B2 a d2] rfl rfl hnews (by simp [Value.oneCell']) (by unfold maxLen; omega) (by omega) HB3.out.size ?_; intro v3 w3 hown3 hgrow3 _; obtain ⟨g3, c3, rfl⟩ := ownsRow_succ hown3)
          have HB4 := Lib.hid (HB3.out.grown hgrow3 HB3.out.size (fun q e => (hownA.lt q e).1))
          have hv5 := own_rows HO2.out hownA hgrow3
          have HG4 : Hid (GO w3 w.heap.size w3.heap.size (Vs ++ [.slice B2 a d2]) ((pcut G).take (k + 1))) := Lib.hid (by
            rw [HT.out]
            have hsz : wr.heap.size ≤ w3.heap.size := by have := hgrow3.size; simp at this; omega
            exact (hGq.rows hownA hgrow3).more (by rw [HRL.out]; exact yown_base hv5 HB.out.size) hsz (fun q hq => (hv5.lt q hq).2))
          have HO4 := Lib.hid hown3
          clear hown3 hgrow3 hownA hnews HB3 hGq hv5 HO2 HD HO HG
          go_wp2_with fail
          exact ⟨⟨k + 1, some ⟨g3, 0, none⟩, c3, _, by omega, by go_num, rfl, HO4, HG4, HB4⟩, by simp [intOf]; omega⟩
    · obtain rfl : m = k := by omega
      rw [HFE.out] at HG
      have HR := Lib.hid (HG.out.lf HO.out HFL.out)
      clear HG HO
      go_wp2
      go_ret
      exact ⟨_, _, rfl, HR.out, HB.out⟩
end Go.Proofs.YtjonhenllhnibaaGreatDoor
/- The contracts of package proof's numbersOf, and of slices.Index of a row of numbers. -/
namespace Go.Proofs.YtjonhenllhnibaaGreatDoor
open Go.RowKit

set_option maxRecDepth 100000 in
set_option maxHeartbeats 2000000 in
theorem pnums_any (A : Option Addr) (n c : Nat) (L : List ItL) (w : World) (hA : IR w A L) (hl : L.length = n) (hn : n ≤ 65536) :
    Calls Tryz.prog 26 #[.slice A n c] w fun e w' => ∃ g, e = .returned (.slice (some ⟨g, 0, none⟩) n n) ∧ Blk w' g 23 (((ikeys L).map vu).toArray) ∧ Below w.heap.size w w' := by
  have e1 := imake_words n hn
  have HTl : Hid ((ikeys L).length = n) := Lib.hid (by rw [ikeys_len, hl])
  have HB0 : Below w.heap.size w (w.alloc (.cells (Array.replicate n (vu 0)) 23)) := ba (Below.refl _ _) _
  have HG0 : Blk (w.alloc (.cells (Array.replicate n (vu 0)) 23)) w.heap.size 23 (((vfill (ikeys L) 0).map vu).toArray) := by
    have := Blk.new w 23 (Array.replicate n (vu 0))
    rwa [vfill_zero, HTl.out, List.map_replicate, List.toArray_replicate]
  have HR := Lib.hid (fun j W (hj : j < n) (hb : Below w.heap.size w W) => (hA.later hb) j (by omega))
  have HX : Hid (∀ j, j < n → (ikeys L).getD j 0 = (L.getD j (0, [])).1) := Lib.hid (fun j hj => ikeys_at L j (by omega))
  have HALL : Hid (vfill (ikeys L) n = ikeys L) := Lib.hid (by have := vfill_all (ikeys L); rwa [HTl.out] at this)
  clear hA hl
  generalize ikeys L = T at *
  go_enter Tryz.func26, Tryz.ntmps26
  go_upto_region 2 with fail
  generalize w.alloc (.cells (Array.replicate n (vu 0)) 23) = w1 at HB0 HG0 ⊢
  clear e1
  go_wp2_with fail
  go_loopw [11] (fun iv wr => ∃ j : Nat, j ≤ n ∧ iv = .int .i64 (j : Int) ∧ Hid (Blk wr w.heap.size 23 (((vfill T j).map vu).toArray)) ∧ Hid (Below w.heap.size w wr)) (fun i _ => n - (intOf i).toNat)
  case atStart => exact ⟨0, Nat.zero_le _, rfl, Lib.hid HG0, Lib.hid HB0⟩
  case round =>
    clear HB0 HG0
    obtain ⟨j, hj, rfl, HG, HB⟩ := hrel
    by_cases hlt : j < n
    · obtain ⟨g, off, rfl, c0, c1⟩ := HR.out j wr hlt HB.out
      have HXj := Lib.hid (HX.out j hlt)
      generalize L.getD j (0, []) = x at c0 c1 HXj
      obtain ⟨xk, xs⟩ := x
      simp only at c0 c1 HXj
      have i0 : (0 : Int) ≤ (j : Int) := by omega
      have i1 : (j : Int) < (n : Int) := by omega
      have hb2 := ba (Below.refl wr.heap.size wr) (.cells #[.int .u64 (xk : Int), sv xs] 42)
      have HG2 := HG.out.below hb2
      have d0 : (wr.alloc (.cells #[.int .u64 (xk : Int), sv xs] 42)).cell? ⟨w.heap.size, j, none⟩ = some (vu ((vfill T j).getD j 0)) := by
        rw [HG2.cell j, List.getElem?_toArray, vqs_at vu _ j (by have := HTl.out; simp [vfill]; omega)]
      have d1 := HG2.frozen j
      have HG3 := Lib.hid (vblk_fill vu HG2 HXj.out)
      have HB3 := Lib.hid (bs (b := w.heap.size) (o := j) (bt HB.out hb2) (Nat.le_refl _) (vu xk))
      clear HG2 hb2
      go_wp2_with fail
      exact ⟨⟨j + 1, by omega, by go_num, HG3, HB3⟩, by simp [intOf]; omega⟩
    · obtain rfl : j = n := by omega
      rw [HALL.out] at HG
      go_wp2
      go_ret
      exact ⟨_, rfl, HG.out, HB.out⟩

set_option maxRecDepth 100000 in
set_option maxHeartbeats 4000000 in
theorem pplace_any (A : Option Addr) (n c k : Nat) (L : List ItL) (w : World) (hA : VR vu w A (ikeys L)) (hl : L.length = n) (hu : IUp L) (hn : n ≤ 65536) :
    Calls Tryz.prog 27 #[.slice A n c, vu k] w fun e w' => e = .returned (.int .i64 (iatZ L k)) ∧ Below w.heap.size w w' := by
  have HA := Lib.hid hA
  have HX : Hid (∀ j, j < n → (ikeys L).getD j 0 = ik L j) := Lib.hid fun j hj => ikeys_at L j (by omega)
  have HKl : Hid ((ikeys L).length = n) := Lib.hid (by rw [ikeys_len, hl])
  have HY : Hid (∀ j, j < n → ik L j = k → iatZ L k = (j : Int)) := Lib.hid fun j hj he => iatZ_yes (by omega) he hu
  have HN : Hid ((∀ i, i < n → ik L i ≠ k) → iatZ L k = -1) := Lib.hid fun h => iatZ_no fun i hi => h i (by omega)
  generalize iatZ L k = R at HY HN ⊢
  clear hA hl hu
  generalize ikeys L = K at *
  go_enter Tryz.func27, Tryz.ntmps27
  go_wp2_with fail
  go_loopw [8] (fun iv wr => ∃ j : Nat, j ≤ n ∧ iv = .int .i64 (j : Int) ∧ Hid (∀ i, i < j → ik L i ≠ k) ∧ Below w.heap.size w wr) (fun i _ => n - (intOf i).toNat)
  case atStart => exact ⟨0, Nat.zero_le _, rfl, Lib.hid (fun i hi => by omega), Below.refl _ _⟩
  case round =>
    obtain ⟨j, hj, rfl, HJ, hb⟩ := hrel
    by_cases hlt : j < n
    · obtain ⟨g, off, rfl, c0⟩ := (HA.out.later hb) j (by rw [HKl.out]; exact hlt)
      rw [HX.out j hlt] at c0
      have HY1 := Lib.hid (HY.out j hlt)
      have HJ1 : Hid (ik L j ≠ k → ∀ i, i < j + 1 → ik L i ≠ k) := Lib.hid fun h i hi => by
        by_cases e : i = j
        · rw [e]; exact h
        · exact HJ.out i (by omega)
      generalize ik L j = xk at c0 HY1 HJ1
      have i0 : (0 : Int) ≤ (j : Int) := by omega
      have i1 : (j : Int) < (n : Int) := by omega
      by_cases hx : xk = k
      · have HR := Lib.hid (HY1.out hx)
        subst hx
        clear HJ1 HY1
        go_wp2
        go_ret
        rw [HR.out]
        exact ⟨rfl, hb⟩
      · have HJ2 := Lib.hid (HJ1.out hx)
        have hx2 : ((k : Int) == (xk : Int)) = false := by simp; omega
        clear HJ1 HY1
        go_wp2_with fail
        exact ⟨⟨j + 1, by omega, by go_num, HJ2, hb⟩, by simp [intOf]; omega⟩
    · obtain rfl : j = n := by omega
      have HR := Lib.hid (HN.out HJ.out)
      go_wp2
      go_ret
      rw [HR.out]
      exact ⟨rfl, hb⟩
end Go.Proofs.YtjonhenllhnibaaGreatDoor
/- The contracts of package proof's standing and groupOf. -/
namespace Go.Proofs.YtjonhenllhnibaaGreatDoor
open Go.RowKit

/-- How high stands what the labels of a level's row begin with. -/
def pst (H : List Nat) (lev : Nat) : List Nat := 9 :: H.filter fun h => decide (lev < h)
theorem pst_zero (lev : Nat) : pst [] lev = [9] := rfl
theorem pst_yes {H : List Nat} {lev j : Nat} (hj : j < H.length) (h : lev < H.getD j 0) : pst (H.take (j + 1)) lev = pst (H.take j) lev ++ [H.getD j 0] := by
  have e : H.getD j 0 = H[j] := by simp [List.getD, hj]
  rw [e] at h ⊢
  rw [List.take_succ_eq_append_getElem hj, pst, pst, List.filter_append, List.filter_cons, if_pos (by simpa using h)]
  rfl
theorem pst_no {H : List Nat} {lev j : Nat} (hj : j < H.length) (h : ¬ lev < H.getD j 0) : pst (H.take (j + 1)) lev = pst (H.take j) lev := by
  have e : H.getD j 0 = H[j] := by simp [List.getD, hj]
  rw [e] at h
  rw [List.take_succ_eq_append_getElem hj, pst, pst, List.filter_append, List.filter_cons, if_neg (by simpa using h)]
  simp
theorem pst_len (H : List Nat) (lev : Nat) : (pst H lev).length ≤ H.length + 1 := by
  have := List.length_filter_le (fun h => decide (lev < h)) H
  simp only [pst, List.length_cons]
  omega
theorem pyhts (L : List Nat) (lev : Nat) : yhts L lev = L.filter fun h => decide (lev < h) := by
  conv => rhs; rw [← ymap_getD L 0]
  rw [List.filter_map, yhts, yhi]
  rfl
theorem pst_is {H : List Nat} {lev : Nat} (h : lev < 9) : pst H lev = yhts (9 :: H) lev := by
  rw [pyhts, List.filter_cons, if_pos (by simpa using h)]
  rfl
theorem pst_count {H : List Nat} {lev m : Nat} (h : lev < 9) (hm : m ≤ H.length) : (pst (H.take m) lev).length = (yhi (9 :: H) lev (m + 1)).length := by
  rw [pst_is h, yhts_len, List.length_cons, List.length_take, Nat.min_eq_left hm]
  congr 1
  unfold yhi
  refine List.filter_congr fun i hi => ?_
  rw [List.mem_range] at hi
  congr 2
  cases i with
  | zero => rfl
  | succ i => simp [List.getD, show i < m by omega]

set_option maxRecDepth 100000 in
set_option maxHeartbeats 4000000 in
theorem pstand_any (A : Option Addr) (n c lev : Nat) (H : List Nat) (w : World) (hA : VR vi w A H) (hl : H.length = n) (hn : n ≤ 4096) :
    Calls Tryz.prog 57 #[.slice A n c, .int .i64 (lev : Int)] w fun e w' => ∃ B d m, m = (pst H lev).length ∧ e = .returned (.slice B m d) ∧ w'.ownsRow w.heap.size 3 1 (.slice B m d) m ((pst H lev).map vi) ∧ Below w.heap.size w w' := by
  obtain ⟨ti, hti, hz0, hz1, hz2⟩ := info_parts infoVI
  have HR := Lib.hid (fun j W (hj : j < n) (hb : Below w.heap.size w W) => (hA.later hb) j (by omega))
  have HY := Lib.hid (fun j (hj : j < n) (h : lev < H.getD j 0) => pst_yes (by omega) h)
  have HN := Lib.hid (fun j (hj : j < n) (h : ¬ lev < H.getD j 0) => pst_no (by omega) h)
  have HE : Hid (pst (H.take n) lev = pst H lev) := Lib.hid (by rw [List.take_of_length_le (by omega)])
  have HZ : Hid (pst (H.take 0) lev = [9]) := Lib.hid (by simp [pst])
  rw [← HE.out]
  clear hA hl HE
  obtain ⟨T, hT⟩ : ∃ T : Nat → List Nat, T = fun j => pst (H.take j) lev := ⟨_, rfl⟩
  have e9 : ∀ j, pst (H.take j) lev = T j := fun j => by rw [hT]
  simp only [e9] at HY HN HZ ⊢
  clear e9 hT
  have hb0 := ba (Below.refl w.heap.size w) (.cells #[vi 9] 3)
  have HO : Hid ((w.alloc (.cells #[vi 9] 3)).ownsRow w.heap.size 3 1 (.slice (some ⟨w.heap.size, 0, none⟩) 1 1) 1 ((T 0).map vi)) := Lib.hid (by
    rw [HZ.out]
    exact yown_one (Blk.new w _ _) (Nat.le_refl _))
  go_enter Tryz.func57, Tryz.ntmps57
  go_wp2_with fail
  go_loopw [5, 11] (fun ov iv wr => ∃ (j m c5 : Nat) (B : Option Addr), j ≤ n ∧ iv = .int .i64 (j : Int) ∧ ov = .slice B m c5 ∧ Hid (m = (T j).length ∧ m ≤ j + 1) ∧ Hid (wr.ownsRow w.heap.size 3 1 (.slice B m c5) m ((T j).map vi)) ∧ Hid (Below w.heap.size w wr)) (fun _ i _ => n - (intOf i).toNat)
  case atStart => exact ⟨0, 1, 1, _, Nat.zero_le _, rfl, rfl, Lib.hid ⟨by rw [HZ.out]; rfl, Nat.le_refl _⟩, HO, Lib.hid hb0⟩
  case round =>
    clear HO hb0
    obtain ⟨j, m, c5, B, hj, rfl, rfl, HM, HO, HB⟩ := hrel
    by_cases hlt : j < n
    · obtain ⟨g, off, rfl, c0⟩ := HR.out j wr hlt HB.out
      have HYj := Lib.hid (HY.out j hlt)
      have HNj := Lib.hid (HN.out j hlt)
      generalize H.getD j 0 = y at c0 HYj HNj
      have i0 : (0 : Int) ≤ (j : Int) := by omega
      have i1 : (j : Int) < (n : Int) := by omega
      have hm : m ≤ 65536 := by have := HM.out.2; omega
      by_cases hh : lev < y
      · have HT2 := Lib.hid (HYj.out hh)
        have HM2 : Hid (m + 1 = (T (j + 1)).length ∧ m + 1 ≤ j + 1 + 1) := Lib.hid ⟨by rw [HT2.out, List.length_append, ← HM.out.1]; rfl, by have := HM.out.2; omega⟩
        have hh1 : (lev : Int) < (y : Int) := by omega
        clear HYj HNj hh
        have hownA := HO.out.alloc (.cells #[vi y] 3)
        have hnews := World.news_of_block (heap_alloc_new wr (.cells #[vi y] 3))
        have B3 := Lib.hid (ba HB.out (.cells #[vi y] 3))
        go_wp2_with (at_builtin; refine wpList_append_own _ rfl _ _ 36 rfl w.heap.size 3 ti _ 1 8 Tryz.underlying36 hti hz0 hz1 hz2 rfl (by decide) _ _ _ rfl hownA ⟨wr.heap.size, 0, none⟩ 1 1 [vi y] rfl rfl hnews (by simp [Value.oneCell']) (by unfold maxLen; omega) (by omega) (by have := B3.out.size; exact this) ?_; intro v4 w5 hown5 hgrow5 _; obtain ⟨g6, c6, rfl⟩ := ownsRow_succ hown5)
        have B5 := Lib.hid (B3.out.grown hgrow5 B3.out.size (fun k e => by have := (hownA.lt k e).1; omega))
        have W5 : Hid (w5.ownsRow w.heap.size 3 1 (.slice (some ⟨g6, 0, none⟩) (m + 1) c6) (m + 1) ((T (j + 1)).map vi)) := Lib.hid (by rw [HT2.out, List.map_append]; exact hown5)
        clear hown5 hgrow5 hnews hownA
        go_wp2_with fail
        exact ⟨⟨j + 1, m + 1, c6, _, by omega, by go_num, rfl, HM2, W5, B5⟩, by simp [intOf]; omega⟩
      · have HT2 := Lib.hid (HNj.out hh)
        have HM2 : Hid (m = (T (j + 1)).length ∧ m ≤ j + 1 + 1) := Lib.hid ⟨by rw [HT2.out, ← HM.out.1], by have := HM.out.2; omega⟩
        have HO2 : Hid (wr.ownsRow w.heap.size 3 1 (.slice B m c5) m ((T (j + 1)).map vi)) := Lib.hid (by rw [HT2.out]; exact HO.out)
        have hh1 : ¬ (lev : Int) < (y : Int) := by omega
        clear HYj HNj hh
        go_wp2_with fail
        exact ⟨⟨j + 1, m, c5, B, by omega, by go_num, rfl, HM2, HO2, HB⟩, by simp [intOf]; omega⟩
    · obtain rfl : j = n := by omega
      go_wp2
      go_ret
      exact ⟨B, c5, m, HM.out.1, rfl, HO.out, HB.out⟩

theorem pcut_ints (A : Option Addr) (len cap m : Nat) (hm : m ≤ cap) (W : World) : (Instr.slice 36 (.slice A len cap) none (some (.int .i64 (m : Int))) none).run Tryz.prog W = .ok (.slice A m cap) W := by
  obtain ⟨i, hi⟩ : ∃ i, Tryz.prog.info? 3 = some i := Option.isSome_iff_exists.1 (by kernel_rfl)
  have hb : (Instr.sliceBounds true len cap none (some (.int .i64 (m : Int))) none).run Tryz.prog W = .ok (0, m, cap) W := by
    have h1 : (0 : Int) ≤ (m : Int) ∧ (m : Int) ≤ (cap : Int) := by omega
    simp [Instr.sliceBounds, Instr.sliceBound, asIntOf, h1]
    omega
  have hA : (if cap = 0 then A else A.map fun x => x.add (0 * i.size)) = A := by
    split
    · rfl
    · cases A <;> simp [Addr.add]
  simp [Instr.slice, run_underlying (P := Tryz.prog) (w := W) Tryz.underlying36, hb, sizeOf, typeInfo, hi]
  simpa using hA
theorem pg_result {fn : Func} {p : Tmp} {tmps : Array Value} {W : World} {g : Nat} {x y z : Value} (h : fn.results = #[.cell p 64]) (hb : Blk W g 64 #[x, y, z]) (hp : tmps.getD p undef = .pointer (some ⟨g, 0, none⟩) := by rfl) :
    (results fn tmps).run Tryz.prog W = .ok (.agg #[x, y, z]) W := by
  have q0 := hb.cell 0
  have q1 := hb.cell 1
  have q2 := hb.cell 2
  simp only [List.getElem?_toArray, List.getElem?_cons_zero, List.getElem?_cons_succ] at q0 q1 q2
  simp only [Array.getD_eq_getD_getElem?] at hp
  simp [results, h, go_sem, hp, q0, q1, q2]
/-- A group's value. -/
abbrev pgv (f p e : Nat) : Value := .agg #[vi f, vi p, vi e]

set_option maxRecDepth 100000 in
set_option maxHeartbeats 8000000 in
theorem pgroup_any (A : Option Addr) (n c at_ lev : Nat) (H : List Nat) (w : World) (hA : VR vi w A H) (hl : H.length = n) (hc : n ≤ c) (hn : n ≤ 4096) (hat : at_ < n) (hlev : lev < 8) :
    Calls Tryz.prog 30 #[.slice A n c, .int .i64 (at_ : Int), .int .i64 (lev : Int)] w fun e w' => ∃ f p q, e = .returned (pgv f p q) ∧ PG (yhts (9 :: H) lev) lev f p q ∧ p + 1 = (yhi (9 :: H) lev (at_ + 2)).length ∧ Below w.heap.size w w' := by
  have HT1 := Lib.hid (fun W (hb : Below w.heap.size w W) => pstand_any A n c lev H W (hA.later hb) hl hn)
  have HT2 := Lib.hid (fun W (hb : Below w.heap.size w W) => pstand_any A (at_ + 1) c lev (H.take (at_ + 1)) W ((hA.later hb).take _) (by rw [List.length_take]; omega) (by omega))
  have HC := Lib.hid (pst_count (H := H) (lev := lev) (m := at_ + 1) (by omega) (by omega))
  have HI := Lib.hid (pst_is (H := H) (lev := lev) (by omega))
  have hR0 : (pst H lev).getD 0 0 = 9 := rfl
  have HPL : Hid (1 ≤ (pst (H.take (at_ + 1)) lev).length ∧ (pst (H.take (at_ + 1)) lev).length ≤ (pst H lev).length) := Lib.hid (by
    refine ⟨by simp [pst], ?_⟩
    rw [HC.out, HI.out, yhts_len, yhi_more (9 :: H) lev (at_ + 1 + 1) (9 :: H).length (by simp; omega), List.length_append]
    omega)
  have HML := Lib.hid (pst_len H lev)
  rw [← HI.out]
  obtain ⟨p, hp⟩ : ∃ p, (pst (H.take (at_ + 1)) lev).length = p + 1 := ⟨(pst (H.take (at_ + 1)) lev).length - 1, by have := HPL.out.1; omega⟩
  rw [hp] at HT2 HC HPL
  have HC2 := Lib.hid HC.out
  clear HI hA hp HC
  generalize pst (H.take (at_ + 1)) lev = R2 at *
  generalize pst H lev = R at *
  obtain ⟨m, hm⟩ : ∃ m, R.length = m := ⟨_, rfl⟩
  have hm8 : m ≤ 8192 := by have := HML.out; omega
  have hpm : p + 1 ≤ m := by have := HPL.out.2; omega
  have HRL := Lib.hid hm
  rw [hm] at HT1
  clear HML HPL hl hm
  have hsl := pcut_ints A n c (at_ + 1) (by omega)
  have cat : (((at_ + 1 : Nat)) : Int) = (at_ : Int) + 1 := by omega
  rw [cat] at hsl
  have hb0 := ba (Below.refl w.heap.size w) (.cells #[.int .i64 0, .int .i64 0, .int .i64 0] 64)
  have hlev1 : (lev : Int) + 1 ≤ 8 := by omega
  have K0 := Lib.hid (Blk.new w 64 #[.int .i64 0, .int .i64 0, .int .i64 0])
  go_enter Tryz.func30, Tryz.ntmps30
  go_wp2_with fail
  refine (HT1.out _ hb0).mono ?_
  rintro e w1 ⟨B1, d1, m1, rfl, rfl, ho1, hb1⟩
  have hB1 := bt hb0 hb1
  have HV1 := Lib.hid (own_VR (q := vi) ho1 HRL.out)
  have HG1 : Hid (∀ a, B1 = some a → a.block < w1.heap.size) := Lib.hid fun a e => by
    subst e
    exact (ho1.lt a.block rfl).2
  have K1 := Lib.hid (K0.out.below hb1)
  clear ho1 hb1 K0 hb0 HT1
  go_wp2_with fail
  refine (HT2.out _ hB1).mono ?_
  rintro e w2 ⟨B2, d2, m2, rfl, rfl, ho2, hb2⟩
  have hB2 := bt hB1 hb2
  have HV2 := Lib.hid (HV1.out.later hb2)
  have HG2 : Hid (∀ a, B1 = some a → a.block < w2.heap.size) := Lib.hid fun a e => Nat.lt_of_lt_of_le (HG1.out a e) hb2.size
  have K2 := Lib.hid (K1.out.below hb2)
  clear ho2 hb2 hB1 K1 HV1 HG1 HT2 hsl
  have hb3 := ba hB2 (.cells #[vi p, vi p, .int .i64 ((p : Int) + 1)] 64)
  have hba := ba (Below.refl w2.heap.size w2) (.cells #[vi p, vi p, .int .i64 ((p : Int) + 1)] 64)
  have KG := Lib.hid (Blk.new w2 64 #[vi p, vi p, .int .i64 ((p : Int) + 1)])
  have K3 := Lib.hid (K2.out.below hba)
  have HV3 := Lib.hid (HV2.out.later hba)
  have HB3 := Lib.hid hb3
  have hw2 : Hid (w.heap.size < w2.heap.size) := Lib.hid K2.out.lt
  clear hba hb3 hB2 K2 HV2
  have HG3 : Hid (∀ a, B1 = some a → a.block < w2.heap.size) := HG2
  have HQ : Hid (∀ f, f ≤ p → f < m1) := Lib.hid fun f hf => by omega
  go_wp2_with fail
  generalize w2.alloc (.cells #[vi p, vi p, .int .i64 ((p : Int) + 1)] 64) = w3 at HV3 HB3 K3 KG ⊢
  generalize w2.heap.size = bg at *
  go_loopw [] (fun wr => ∃ f : Nat, f ≤ p ∧ Hid (Blk wr bg 64 #[vi f, vi p, .int .i64 ((p : Int) + 1)]) ∧ Hid (∀ j, f < j → j ≤ p → ¬ lev + 1 < R.getD j 0) ∧ Hid (Blk wr w.heap.size 64 #[.int .i64 0, .int .i64 0, .int .i64 0]) ∧ Hid (VR vi wr B1 R) ∧ Hid (Below w.heap.size w wr)) (fun wr => (intOf ((wr.cell? ⟨bg, 0, none⟩).getD undef)).toNat)
  case atStart => exact ⟨p, Nat.le_refl _, KG, Lib.hid fun j h1 h2 => by omega, K3, HV3, HB3⟩
  case round =>
    clear HV3 HB3 K3 KG HG2
    obtain ⟨f, hf, HK, HJ, HK0, HV, HB⟩ := hrel
    have k0 := HK.out.cell 0
    have k1 := HK.out.cell 1
    have k2 := HK.out.cell 2
    have f0 := HK.out.frozen 0
    simp only [List.getElem?_toArray, List.getElem?_cons_zero, List.getElem?_cons_succ] at k0 k1 k2
    obtain ⟨g, off, rfl, c0⟩ := HV.out f (by rw [HRL.out]; exact HQ.out f hf)
    have hg := HG3.out _ rfl
    have HJf : Hid (¬ lev + 1 < R.getD f 0 → ∀ j, f - 1 < j → j ≤ p → ¬ lev + 1 < R.getD j 0) := Lib.hid fun h j h1 h2 => by
      by_cases e : j = f
      · rw [e]; exact h
      · exact HJ.out j (by omega) h2
    have HZ : Hid (¬ lev + 1 < R.getD f 0 → 1 ≤ f) := Lib.hid fun h => by
      cases f with
      | zero => rw [hR0] at h; omega
      | succ f => omega
    have HFF : Hid (lev + 1 < R.getD f 0 → lev + 1 < R.getD f 0) := Lib.hid id
    obtain ⟨y, hy⟩ : ∃ y, R.getD f 0 = y := ⟨_, rfl⟩
    have HYY := Lib.hid hy
    rw [hy] at c0 HJf HZ HFF
    have i0 : (0 : Int) ≤ (f : Int) := by omega
    have i1 : (f : Int) < (m1 : Int) := by have := HQ.out f hf; omega
    clear hy
    by_cases hh : lev + 1 < y
    · have j1 : ¬ (y : Int) ≤ (lev : Int) + 1 := by omega
      have HFf : Hid (lev + 1 < R.getD f 0) := Lib.hid (by rw [HYY.out]; exact hh)
      have HK1 : Hid (Blk wr bg 64 #[vi f, vi p, vi (p + 1)]) := Lib.hid (by
        have e : ((p : Int) + 1) = ((p + 1 : Nat) : Int) := by omega
        have := HK.out
        rw [e] at this
        exact this)
      clear HZ HJf HFF HYY hh k1 k2 f0 HK
      go_wp2_with fail
      clear c0 k0 j1 i0 i1
      go_loopw [] (fun wr => ∃ q : Nat, p < q ∧ q ≤ m1 ∧ Hid (Blk wr bg 64 #[vi f, vi p, vi q]) ∧ Hid (∀ j, p < j → j < q → ¬ lev + 1 < R.getD j 0) ∧ Hid (Blk wr w.heap.size 64 #[.int .i64 0, .int .i64 0, .int .i64 0]) ∧ Hid (VR vi wr (some ⟨g, off, none⟩) R) ∧ Hid (Below w.heap.size w wr)) (fun wr => m1 - (intOf ((wr.cell? ⟨bg, 2, none⟩).getD undef)).toNat)
      case atStart => exact ⟨p + 1, by omega, by omega, HK1, Lib.hid fun j h1 h2 => by omega, HK0, HV, HB⟩
      case round =>
        clear HK1 HK0 HV HB
        obtain ⟨q, hpq, hqm, HK, HA, HK0, HV, HB⟩ := hrel
        have k0 := HK.out.cell 0
        have k1 := HK.out.cell 1
        have k2 := HK.out.cell 2
        have f2 := HK.out.frozen 2
        simp only [List.getElem?_toArray, List.getElem?_cons_zero, List.getElem?_cons_succ] at k0 k1 k2
        have h2 : bg ≠ w.heap.size := fun e => by have := hw2.out; omega
        by_cases hlt : q < m1
        · obtain ⟨g', off', e', c0⟩ := HV.out q (by rw [HRL.out]; exact hlt)
          cases e'
          have i0 : (0 : Int) ≤ (q : Int) := by omega
          have i1 : (q : Int) < (m1 : Int) := by omega
          have HAq : Hid (¬ lev + 1 < R.getD q 0 → ∀ j, p < j → j < q + 1 → ¬ lev + 1 < R.getD j 0) := Lib.hid fun h j h1 h2 => by
            by_cases e : j = q
            · rw [e]; exact h
            · exact HA.out j h1 (by omega)
          have HPG : Hid (lev + 1 < R.getD q 0 → PG R lev f p q) := Lib.hid fun h => ⟨hf, hpq, by rw [HRL.out]; exact hqm, HFf.out, HJ.out, HA.out, .inr h⟩
          generalize R.getD q 0 = z at c0 HAq HPG
          by_cases hz : lev + 1 < z
          · have j1 : ¬ (z : Int) ≤ (lev : Int) + 1 := by omega
            have HP := Lib.hid (HPG.out hz)
            have r0 := HK0.out.frozen 0
            have r1 := HK0.out.frozen 1
            have r2 := HK0.out.frozen 2
            have s0 := HK0.out.cell 0
            have s1 := HK0.out.cell 1
            have s2 := HK0.out.cell 2
            simp only [List.getElem?_toArray, List.getElem?_cons_zero, List.getElem?_cons_succ] at s0 s1 s2
            have KK := Lib.hid (((HK0.out.set_ 0 (vi f)).set_ 1 (vi p)).set_ 2 (vi q))
            have BB := Lib.hid (bs (b := w.heap.size) (o := 2) (bs (b := w.heap.size) (o := 1) (bs (b := w.heap.size) (o := 0) HB.out (Nat.le_refl _) (vi f)) (Nat.le_refl _) (vi p)) (Nat.le_refl _) (vi q))
            clear HAq HPG hz HK HA HK0 HV HB
            go_wp2_with fail
            refine bodyPost_ret (pg_result rfl KK.out) rfl ?_
            exact ⟨f, p, q, rfl, HP.out, HC2.out, BB.out⟩
          · have j1 : (z : Int) ≤ (lev : Int) + 1 := by omega
            have HA2 := Lib.hid (HAq.out hz)
            have KN := HK.out.set_ 2 (.int .i64 ((q : Int) + 1))
            have HKN : Hid (Blk (wr.setCell ⟨bg, 2, none⟩ (.int .i64 ((q : Int) + 1))) bg 64 #[vi f, vi p, vi (q + 1)]) := Lib.hid (by
              have e : ((q : Int) + 1) = ((q + 1 : Nat) : Int) := by omega
              rw [e] at KN ⊢
              exact KN)
            have HK0N := Lib.hid (HK0.out.far (p := ⟨bg, 2, none⟩) (by show w.heap.size ≠ bg; omega) (.int .i64 ((q : Int) + 1)))
            have HVN := Lib.hid (VR.kp (w' := wr.setCell ⟨bg, 2, none⟩ (.int .i64 ((q : Int) + 1))) HV.out (fun a e => by
              cases e
              exact Below.heap_setCell wr ⟨bg, 2, none⟩ _ g (by show g ≠ bg; have : g < bg := hg; omega)))
            have HBN := Lib.hid (bs (b := bg) (o := 2) HB.out (Nat.le_of_lt hw2.out) (.int .i64 ((q : Int) + 1)))
            clear KN HK HK0 HV HB HAq HPG hz
            go_wp2_with fail
            exact ⟨⟨q + 1, by omega, by omega, HKN, HA2, HK0N, HVN, HBN⟩, by rw [HKN.out.cell 2, k2]; simp [intOf]; omega⟩
        · obtain rfl : m1 = q := by omega
          have i1 : ¬ (m1 : Int) < (m1 : Int) := by omega
          have HP : Hid (PG R lev f p m1) := Lib.hid ⟨hf, hpq, by rw [HRL.out]; exact hqm, HFf.out, HJ.out, HA.out, .inl HRL.out.symm⟩
          have r0 := HK0.out.frozen 0
          have r1 := HK0.out.frozen 1
          have r2 := HK0.out.frozen 2
          have s0 := HK0.out.cell 0
          have s1 := HK0.out.cell 1
          have s2 := HK0.out.cell 2
          simp only [List.getElem?_toArray, List.getElem?_cons_zero, List.getElem?_cons_succ] at s0 s1 s2
          have KK := Lib.hid (((HK0.out.set_ 0 (vi f)).set_ 1 (vi p)).set_ 2 (vi m1))
          have BB := Lib.hid (bs (b := w.heap.size) (o := 2) (bs (b := w.heap.size) (o := 1) (bs (b := w.heap.size) (o := 0) HB.out (Nat.le_refl _) (vi f)) (Nat.le_refl _) (vi p)) (Nat.le_refl _) (vi m1))
          clear HK HA HK0 HV HB
          go_wp2_with fail
          refine bodyPost_ret (pg_result rfl KK.out) rfl ?_
          exact ⟨f, p, m1, rfl, HP.out, HC2.out, BB.out⟩
    · have j1 : (y : Int) ≤ (lev : Int) + 1 := by omega
      have h1f := HZ.out hh
      have HJ2 := Lib.hid (HJf.out hh)
      have KN := HK.out.set_ 0 (.int .i64 ((f : Int) - 1))
      have HKN : Hid (Blk (wr.setCell ⟨bg, 0, none⟩ (.int .i64 ((f : Int) - 1))) bg 64 #[vi (f - 1), vi p, .int .i64 ((p : Int) + 1)]) := Lib.hid (by
        have e : ((f : Int) - 1) = ((f - 1 : Nat) : Int) := by omega
        rw [e] at KN ⊢
        exact KN)
      have HK0N := Lib.hid (HK0.out.far (p := ⟨bg, 0, none⟩) (by show w.heap.size ≠ bg; have := hw2.out; omega) (.int .i64 ((f : Int) - 1)))
      have HVN := Lib.hid (VR.kp (w' := wr.setCell ⟨bg, 0, none⟩ (.int .i64 ((f : Int) - 1))) HV.out (fun a e => by
        cases e
        exact Below.heap_setCell wr ⟨bg, 0, none⟩ _ g (by show g ≠ bg; have : g < bg := hg; omega)))
      have HBN := Lib.hid (bs (b := bg) (o := 0) HB.out (Nat.le_of_lt hw2.out) (.int .i64 ((f : Int) - 1)))
      clear KN HK HK0 HV HB HJf HZ HFF hh
      go_wp2_with fail
      exact ⟨⟨f - 1, by omega, HKN, HJ2, HK0N, HVN, HBN⟩, by rw [HKN.out.cell 0, k0]; simp [intOf]; omega⟩
end Go.Proofs.YtjonhenllhnibaaGreatDoor
