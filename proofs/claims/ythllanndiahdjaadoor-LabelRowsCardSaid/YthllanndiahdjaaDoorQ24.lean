/- Texts of this seat, one behind the other: YOf, YRRow, YLawR, YMade. -/
import Derived.BigQuiet
import Derived.Deep.QuietTactic
import Derived.Test.YthllanndiahdjaaDoorQ12
import Derived.Test.YthllanndiahdjaaDoorQ14
import Derived.Test.YthllanndiahdjaaDoorQ15
import Derived.Test.YthllanndiahdjaaDoorQ17
import Derived.Test.YthllanndiahdjaaDoorQ19
import Derived.Test.YthllanndiahdjaaDoorQ20
import Derived.Test.YthllanndiahdjaaDoorQ22
import Derived.Test.YthllanndiahdjaaDoorQ23
/- The contracts of the reference's From and Of: the label of a place on a level. -/
namespace Go.Proofs.YthllanndiahdjaaDoor
open Go.RowKit

/-- A list and its heights. -/
abbrev ytv (A B : Option Addr) (n cA cB : Nat) : Value := .agg #[.slice A n cA, .slice B n cB]
/-- The places from one on, as far as the loop has come. -/
def yfr (H : List Nat) (lev q j : Nat) : List Nat := q :: (List.range' (q + 1) j).filter fun i => decide (lev < H.getD i 0)
theorem yfr_zero (H : List Nat) (lev q : Nat) : yfr H lev q 0 = [q] := rfl
theorem yfr_yes {H : List Nat} {lev q j : Nat} (h : lev < H.getD (q + 1 + j) 0) : yfr H lev q (j + 1) = yfr H lev q j ++ [q + 1 + j] := by
  rw [yfr, yfr, List.range'_concat, List.filter_append, List.filter_cons, List.filter_nil, Nat.one_mul, if_pos (by simpa using h), List.cons_append]
theorem yfr_no {H : List Nat} {lev q j : Nat} (h : ¬ lev < H.getD (q + 1 + j) 0) : yfr H lev q (j + 1) = yfr H lev q j := by
  rw [yfr, yfr, List.range'_concat, List.filter_append, List.filter_cons, List.filter_nil, Nat.one_mul, if_neg (by simpa using h), List.append_nil]
theorem yfr_len (H : List Nat) (lev q j : Nat) : 1 ≤ (yfr H lev q j).length ∧ (yfr H lev q j).length ≤ j + 1 := by
  have := List.length_filter_le (fun i => decide (lev < H.getD i 0)) (List.range' (q + 1) j)
  rw [List.length_range'] at this
  simp only [yfr, List.length_cons]
  omega
theorem yfrom_len (H : List Nat) (lev q : Nat) (h : q < H.length) : (yfrom H lev q).length ≤ H.length := by
  have h1 := List.length_filter_le (fun i => decide (lev < H.getD i 0)) ((List.range' (q + 1) (H.length - (q + 1))).takeWhile (fun i => !decide (lev + 1 < H.getD i 0)))
  have h2 := (List.takeWhile_prefix (fun i => !decide (lev + 1 < H.getD i 0)) (l := List.range' (q + 1) (H.length - (q + 1)))).length_le
  rw [List.length_range'] at h2
  simp only [yfrom, List.length_cons]
  omega

set_option maxRecDepth 100000 in
set_option maxHeartbeats 8000000 in
theorem yfrom_any (lev q n cA cB : Nat) (A B : Option Addr) (H : List Nat) (F : Nat → List UInt8) (w : World) (hB : VR vi w B H) (hl : H.length = n) (hq : q ≤ n) (hn : n ≤ 1024)
    (hOf : ∀ p W, p ≤ n → Below w.heap.size w W → Calls Tryd.prog 35 #[ytv A B n cA cB, .int .i64 ((p : Int) - 1), .int .i64 (lev : Int)] W fun e w' => e = .returned (.string ⟨(F p).toArray⟩) ∧ Below W.heap.size W w') :
    Calls Tryd.prog 53 #[ytv A B n cA cB, .int .i64 ((q : Int) - 1), .int .i64 (lev : Int), .int .i64 ((lev : Int) + 1)] w fun e w' => ∃ X c, e = .returned (.slice X (yfrom (9 :: H) lev q).length c) ∧ w'.ownsRow w.heap.size 9 1 (.slice X (yfrom (9 :: H) lev q).length c) (yfrom (9 :: H) lev q).length (((yfrom (9 :: H) lev q).map F).map sv) ∧ Below w.heap.size w w' := by
  obtain ⟨si, hsi, jy0, jy1, jy2⟩ := info_parts infoS
  have HR := Lib.hid (fun j W (hj : j < n) (hb : Below w.heap.size w W) => (hB.later hb) j (by omega))
  have HO1 := Lib.hid (fun W (hb : Below w.heap.size w W) => hOf q W hq hb)
  have HO2 : Hid (∀ i W, i < n → Below w.heap.size w W → Calls Tryd.prog 35 #[ytv A B n cA cB, .int .i64 (i : Int), .int .i64 (lev : Int)] W fun e w' => e = .returned (.string ⟨(F (i + 1)).toArray⟩) ∧ Below W.heap.size W w') := Lib.hid fun i W hi hb => by
    have := hOf (i + 1) W (by omega) hb
    rwa [show (((i + 1 : Nat) : Int) - 1) = (i : Int) by omega] at this
  have HIS : Hid (∀ j, q + j ≤ n → (∀ i, i < j → ¬ lev + 1 < H.getD (q + i) 0) → (q + j = n ∨ lev + 1 < H.getD (q + j) 0) → yfrom (9 :: H) lev q = yfr (9 :: H) lev q j) := Lib.hid fun j hj h1 h2 => by
    have e : ∀ i, (9 :: H).getD (q + 1 + i) 0 = H.getD (q + i) 0 := fun i => by rw [show q + 1 + i = q + i + 1 by omega]; rfl
    exact yfrom_is (9 :: H) lev q j (by rw [List.length_cons]; omega) (fun i hi => by rw [e]; exact h1 i hi) (by rw [e, List.length_cons]; exact h2.imp (fun h3 => by omega) id)
  have HY : Hid (∀ j, lev < H.getD (q + j) 0 → yfr (9 :: H) lev q (j + 1) = yfr (9 :: H) lev q j ++ [q + j + 1]) := Lib.hid fun j h => by
    have e : (9 :: H).getD (q + 1 + j) 0 = H.getD (q + j) 0 := by rw [show q + 1 + j = q + j + 1 by omega]; rfl
    rw [yfr_yes (by rw [e]; exact h), show q + 1 + j = q + j + 1 by omega]
  have HN : Hid (∀ j, ¬ lev < H.getD (q + j) 0 → yfr (9 :: H) lev q (j + 1) = yfr (9 :: H) lev q j) := Lib.hid fun j h => by
    have e : (9 :: H).getD (q + 1 + j) 0 = H.getD (q + j) 0 := by rw [show q + 1 + j = q + j + 1 by omega]; rfl
    exact yfr_no (by rw [e]; exact h)
  have HC := Lib.hid (yfr_len (9 :: H) lev q)
  have HZ := Lib.hid (yfr_zero (9 :: H) lev q)
  generalize yfrom (9 :: H) lev q = T at *
  generalize yfr (9 :: H) lev q = G at *
  clear hB hl hOf
  have hb0 := ba (Below.refl w.heap.size w) (.cells #[.slice A n cA, .slice B n cB] 65)
  have hk0 := Blk.new w 65 #[.slice A n cA, .slice B n cB]
  go_enter Tryd.func53, Tryd.ntmps53
  go_wp2_with fail
  refine (HO1.out _ hb0).mono ?_
  rintro e w1 ⟨rfl, hb1⟩
  have HK1 := Lib.hid ((hk0.below hb1).alloc (.cells #[sv (F q)] 9))
  have HB1 := Lib.hid (ba (bt hb0 hb1) (.cells #[sv (F q)] 9))
  have HW1 : Hid ((w1.alloc (.cells #[sv (F q)] 9)).ownsRow (w.heap.size + 1) 9 1 (.slice (some ⟨w1.heap.size, 0, none⟩) 1 1) 1 (((G 0).map F).map sv)) := Lib.hid (by
    rw [HZ.out]
    exact yown_one (Blk.new w1 _ _) (by have := hb1.size; rw [World.size_alloc] at this; exact this))
  clear hb0 hk0 hb1 HO1 HZ
  go_wp2_with fail
  have w0 : IntKind.i64.wrap ((q : Int) - 1 + 1) = (q : Int) := by rw [IntKind.wrap_i64]; omega
  generalize w1.alloc (.cells #[sv (F q)] 9) = w2 at HK1 HB1 HW1 ⊢
  have hb0 := ba (Below.refl w.heap.size w) (.cells #[.slice A n cA, .slice B n cB] 65)
  go_loopw [9, 10] (fun ov iv wr => ∃ (j p m c : Nat) (X : Option Addr), q + j = p ∧ p ≤ n ∧ iv = .int .i64 (p : Int) ∧ ov = .slice X m c ∧ Hid (m = (G j).length) ∧ Hid (∀ i, i < j → ¬ lev + 1 < H.getD (q + i) 0) ∧ Hid (wr.ownsRow (w.heap.size + 1) 9 1 (.slice X m c) m (((G j).map F).map sv)) ∧ Hid (Blk wr w.heap.size 65 #[.slice A n cA, .slice B n cB]) ∧ Hid (Below w.heap.size w wr)) (fun _ i _ => n - (intOf i).toNat)
  case atStart => exact ⟨0, q, 1, 1, _, Nat.add_zero _, hq, rfl, rfl, Lib.hid (by have := HW1.out.1; rw [List.length_map, List.length_map, Nat.mul_one] at this; exact this.symm), Lib.hid (fun i hi => absurd hi (Nat.not_lt_zero _)), HW1, HK1, HB1⟩
  case round =>
    clear HK1 HB1 HW1 w0
    obtain ⟨j, p, m, c, X, hp, hpn, rfl, rfl, HM, HNO, HO, HK, HB⟩ := hrel
    have HP := Lib.hid hp
    have hmn : m ≤ n + 1 := by have := (HC.out j).2; have := HM.out; omega
    have k0 := HK.out.cell 0
    have k1 := HK.out.cell 1
    simp only [List.getElem?_toArray, List.getElem?_cons_zero, List.getElem?_cons_succ] at k0 k1
    by_cases hlt : p < n
    · obtain ⟨g, off, rfl, d0⟩ := HR.out p wr hlt HB.out
      have HYj := HY.out j
      have HNj := HN.out j
      have HIj := HIS.out j (by omega) HNO.out
      have HNX : ¬ lev + 1 < H.getD p 0 → ∀ i, i < j + 1 → ¬ lev + 1 < H.getD (q + i) 0 := fun h i hi => by
        rcases Nat.lt_or_ge i j with h2 | h2
        · exact HNO.out i h2
        · obtain rfl : i = j := by omega
          rw [hp]
          exact h
      rw [hp] at HYj HNj HIj
      have HYj := Lib.hid HYj
      have HNj := Lib.hid HNj
      have HIj := Lib.hid HIj
      have HNX := Lib.hid HNX
      have HOj := Lib.hid (HO2.out p wr hlt HB.out)
      have i0 : (0 : Int) ≤ (p : Int) := by omega
      have i1 : (p : Int) < (n : Int) := by omega
      generalize H.getD p 0 = y at d0 HYj HNj HIj HNX
      by_cases hy : lev + 1 < y
      · have HE := Lib.hid (HIj.out (.inr hy))
        have hy1 : (lev : Int) + 1 < (y : Int) := by omega
        clear HYj HNj HIj HNX hy hp
        go_wp2
        go_ret
        refine ⟨X, c, by rw [HE.out, ← HM.out]; rfl, ?_, HB.out⟩
        rw [HE.out, ← HM.out]
        exact yown_base HO.out (by omega)
      · have HNX2 := Lib.hid (HNX.out hy)
        have hy1 : ¬ (lev : Int) + 1 < (y : Int) := by omega
        by_cases hh : lev < y
        · have HT2 := Lib.hid (HYj.out hh)
          have hh1 : (lev : Int) < (y : Int) := by omega
          have HM2 : Hid (m + 1 = (G (j + 1)).length) := Lib.hid (by rw [HT2.out, List.length_append, ← HM.out]; rfl)
          clear HYj HNj HIj HNX hy hh hp
          go_wp2_with fail
          refine HOj.out.mono ?_
          rintro e w3 ⟨rfl, hb3⟩
          have hown0 := own_later HO.out hb3
          have hownA := hown0.alloc (.cells #[sv (F (p + 1))] 9)
          have hnews := World.news_of_block (heap_alloc_new w3 (.cells #[sv (F (p + 1))] 9))
          have B3 := Lib.hid (ba (bt HB.out hb3) (.cells #[sv (F (p + 1))] 9))
          have K3 := Lib.hid ((HK.out.below hb3).alloc (.cells #[sv (F (p + 1))] 9))
          have HSZ : Hid (w.heap.size + 1 ≤ (w3.alloc (.cells #[sv (F (p + 1))] 9)).heap.size) := Lib.hid (by have := K3.out.lt; omega)
          clear hown0
          go_wp2_with (at_builtin; refine wpList_append_own _ rfl _ _ 25 rfl (w.heap.size + 1) 9 si _ 1 16 Tryd.underlying25 hsi jy0 jy1 jy2 rfl (by decide) _ _ _ rfl hownA ⟨w3.heap.size, 0, none⟩ 1 1 [sv (F (p + 1))] rfl rfl hnews (by simp [Value.oneCell']) (by unfold maxLen; omega) (by omega) HSZ.out ?_; intro v4 w5 hown5 hgrow5 _; obtain ⟨g6, c6, rfl⟩ := ownsRow_succ hown5)
          have B5 := Lib.hid (B3.out.grown hgrow5 B3.out.size (fun k e => by have := (hownA.lt k e).1; omega))
          have K5 : Hid (Blk w5 w.heap.size 65 #[.slice A n cA, .slice (some ⟨g, off, none⟩) n cB]) := Lib.hid ((hgrow5.block _ K3.out.lt (fun e => by have := (hownA.lt _ e.symm).1; omega)).trans K3.out)
          have W5 : Hid (w5.ownsRow (w.heap.size + 1) 9 1 (.slice (some ⟨g6, 0, none⟩) (m + 1) c6) (m + 1) (((G (j + 1)).map F).map sv)) := Lib.hid (by rw [HT2.out, List.map_append, List.map_append]; exact hown5)
          clear hown5 hgrow5 hnews hownA hb3 k0 k1
          go_wp2_with fail
          exact ⟨⟨j + 1, p + 1, m + 1, c6, _, by have := HP.out; omega, by omega, by go_num, rfl, HM2, HNX2, W5, K5, B5⟩, by simp [intOf]; omega⟩
        · have HT2 := Lib.hid (HNj.out hh)
          have hh1 : ¬ (lev : Int) < (y : Int) := by omega
          have HM2 : Hid (m = (G (j + 1)).length) := Lib.hid (by rw [HT2.out, ← HM.out])
          have W5 : Hid (wr.ownsRow (w.heap.size + 1) 9 1 (.slice X m c) m (((G (j + 1)).map F).map sv)) := Lib.hid (by rw [HT2.out]; exact HO.out)
          clear HYj HNj HIj HNX hy hh hp
          go_wp2_with fail
          exact ⟨⟨j + 1, p + 1, m, c, X, by have := HP.out; omega, by omega, by go_num, rfl, HM2, HNX2, W5, HK, HB⟩, by simp [intOf]; omega⟩
    · obtain rfl : p = n := by omega
      have HE := Lib.hid (HIS.out j (by omega) HNO.out (.inl hp))
      clear hp
      go_wp2
      go_ret
      refine ⟨X, c, by rw [HE.out, ← HM.out]; rfl, ?_, HB.out⟩
      rw [HE.out, ← HM.out]
      exact yown_base HO.out (by omega)

theorem ybase_len (Z : List ItL) (q : Nat) : (ybase Z q).length = 32 := by
  unfold ybase
  split
  · exact hsum32 _
  · exact hsum32 _
theorem ylabb_len (Z : List ItL) (H : List Nat) (lev q : Nat) : (ylab (ybase Z) H lev q).length = 32 := by
  cases lev with
  | zero => exact ybase_len Z q
  | succ lev => exact hsum32 _

set_option maxRecDepth 100000 in
set_option maxHeartbeats 8000000 in
theorem yof_any (n cA cB : Nat) (A B : Option Addr) (Z : List ItL) (H : List Nat) (w0 : World) (hA : IR w0 A Z) (hB : VR vi w0 B H) (hz : Z.length = n) (hh : H.length = n) (hn : n ≤ 1024) (hx : ∀ x ∈ Z, x.1 < 18446744073709551616) (hs : ∀ x ∈ Z, x.2.length ≤ 4096) :
    ∀ (lev q : Nat) (w : World), lev ≤ 8 → q ≤ n → Below w0.heap.size w0 w → Calls Tryd.prog 35 #[ytv A B n cA cB, .int .i64 ((q : Int) - 1), .int .i64 (lev : Int)] w fun e w' => e = .returned (.string ⟨(ylab (ybase Z) (9 :: H) lev q).toArray⟩) ∧ Below w.heap.size w w' := by
  intro lev
  induction lev with
  | zero =>
    intro q w _ hq hb
    have hb0 := ba (Below.refl w.heap.size w) (.cells #[.slice A n cA, .slice B n cB] 65)
    have hk0 := Blk.new w 65 #[.slice A n cA, .slice B n cB]
    cases q with
    | zero =>
      have T1 := Lib.hid (fun W => hrsum_any rwords_holds [1] W (by simp))
      have e : ylab (ybase Z) (9 :: H) 0 0 = hsumL [1] := rfl
      rw [e]
      clear e
      have hcd : ∀ W : World, (convert 57 9 (.slice (some ⟨W.heap.size, 0, none⟩) 1 1)).run Tryd.prog (W.alloc (.cells #[.int .u8 1] 5)) = .ok (.string ⟨[1].toArray⟩) (W.alloc (.cells #[.int .u8 1] 5)) := fun W => yone_new 1 W
      generalize hsumL [1] = h at *
      have hcw := hcd (w.alloc (.cells #[.slice A n cA, .slice B n cB] 65))
      rw [World.size_alloc] at hcw
      have hb2 := ba hb0 (.cells #[.int .u8 1] 5)
      go_enter Tryd.func35, Tryd.ntmps35
      go_wp2_with fail
      refine (T1.out _).mono ?_
      rintro e w1 ⟨rfl, hb1⟩
      have hb3 := bt hb2 hb1
      go_wp2
      go_ret
      exact ⟨rfl, hb3⟩
    | succ q =>
      obtain ⟨g, off, rfl, c0, c1⟩ := (hA.later (bt hb hb0)) q (by omega)
      have hm := ik_mem (L := Z) (j := q) (by omega)
      have hx1 := hx _ hm
      have hs1 := hs _ hm
      have e : ylab (ybase Z) (9 :: H) 0 (q + 1) = yleaf (Z.getD q (0, [])) := rfl
      rw [e, show (((q + 1 : Nat) : Int) - 1) = (q : Int) by omega]
      clear e hm
      generalize Z.getD q (0, []) = x at *
      obtain ⟨xk, xs⟩ := x
      simp only at c0 c1 hx1 hs1
      have T1 := Lib.hid (fun W => yrleaf_any xk xs W hs1 hx1)
      generalize yleaf (xk, xs) = h at *
      have i0 : (0 : Int) ≤ (q : Int) := by omega
      have i1 : (q : Int) < (n : Int) := by omega
      have k0 := hk0.cell 0
      simp only [List.getElem?_toArray, List.getElem?_cons_zero] at k0
      clear hk0
      go_enter Tryd.func35, Tryd.ntmps35
      go_wp2_with fail
      refine (T1.out _).mono ?_
      rintro e w1 ⟨rfl, hb1⟩
      have hb3 := bt hb0 hb1
      go_wp2
      go_ret
      exact ⟨rfl, hb3⟩
  | succ lev ih =>
    intro q w hlev hq hb
    have hb0 := ba (Below.refl w.heap.size w) (.cells #[.slice A n cA, .slice B n cB] 65)
    have hk0 := Blk.new w 65 #[.slice A n cA, .slice B n cB]
    have k0 := hk0.cell 0
    have k1 := hk0.cell 1
    simp only [List.getElem?_toArray, List.getElem?_cons_zero, List.getElem?_cons_succ] at k0 k1
    have e1 : ((lev + 1 : Nat) : Int) = (lev : Int) + 1 := by omega
    have T1 := Lib.hid (fun W (hW : Below w.heap.size w W) => yfrom_any lev q n cA cB A B H (ylab (ybase Z) (9 :: H) lev) W (hB.later (bt hb hW)) hh hq hn (fun p V hp hV => ih p V (by omega) hp (bt (bt hb hW) hV)))
    have hlen := yfrom_len (9 :: H) lev q (by rw [List.length_cons]; omega)
    rw [List.length_cons, hh] at hlen
    have T2 := Lib.hid (fun A c W (hS : SR W A ((yfrom (9 :: H) lev q).map (ylab (ybase Z) (9 :: H) lev))) => yrtext_any (lev + 1) A (yfrom (9 :: H) lev q).length c _ W hlev hS (List.length_map _) (by omega) (by
      rw [ytake_flat _ (fun x hx => by
        rw [List.mem_map] at hx
        obtain ⟨p, _, rfl⟩ := hx
        exact ylabb_len Z (9 :: H) lev p), List.length_map]
      omega))
    have T3 := Lib.hid (fun W => hrsum_any rwords_holds (ytext (lev + 1) ((yfrom (9 :: H) lev q).map (ylab (ybase Z) (9 :: H) lev))) W (by
      rw [ytext_len, ytake_flat _ (fun x hx => by
        rw [List.mem_map] at hx
        obtain ⟨p, _, rfl⟩ := hx
        exact ylabb_len Z (9 :: H) lev p), List.length_map]
      omega))
    have e : ylab (ybase Z) (9 :: H) (lev + 1) q = hsumL (ytext (lev + 1) ((yfrom (9 :: H) lev q).map (ylab (ybase Z) (9 :: H) lev))) := rfl
    rw [e]
    rw [e1] at T2 ⊢
    clear e hk0 ih hx hs
    have HL : Hid (((yfrom (9 :: H) lev q).map (ylab (ybase Z) (9 :: H) lev)).length = (yfrom (9 :: H) lev q).length) := Lib.hid (List.length_map _)
    generalize (yfrom (9 :: H) lev q).length = m at *
    generalize (yfrom (9 :: H) lev q).map (ylab (ybase Z) (9 :: H) lev) = D at *
    generalize hsumL (ytext (lev + 1) D) = h at *
    generalize ytext (lev + 1) D = t at *
    have i1 : (0 : Int) < (lev : Int) + 1 := by omega
    have i2 : IntKind.i64.wrap ((lev : Int) + 1 - 1) = (lev : Int) := by rw [IntKind.wrap_i64]; omega
    go_enter Tryd.func35, Tryd.ntmps35
    go_wp2_with fail
    refine (T1.out _ hb0).mono ?_
    rintro e w1 ⟨X, c, rfl, hown, hb1⟩
    have HS := Lib.hid (own_SR' hown HL.out)
    clear hown
    go_wp2_with fail
    refine (T2.out _ c _ HS.out).mono ?_
    rintro e w2 ⟨rfl, hb2⟩
    go_wp2_with fail
    refine (T3.out _).mono ?_
    rintro e w3 ⟨rfl, hb3⟩
    have hb4 := bt hb0 (bt hb1 (bt hb2 hb3))
    go_wp2
    go_ret
    exact ⟨rfl, hb4⟩
end Go.Proofs.YthllanndiahdjaaDoor
/- The contracts of the reference's List, Row and Root. -/
namespace Go.Proofs.YthllanndiahdjaaDoor
open Go.RowKit

theorem yt_result {fn : Func} {p : Tmp} {tmps : Array Value} {W : World} {g : Nat} {x y : Value} (h : fn.results = #[.cell p 65]) (hb : Blk W g 65 #[x, y]) (hp : tmps.getD p undef = .pointer (some ⟨g, 0, none⟩) := by rfl) :
    (results fn tmps).run Tryd.prog W = .ok (.agg #[x, y]) W := by
  have q0 := hb.cell 0
  have q1 := hb.cell 1
  simp only [List.getElem?_toArray, List.getElem?_cons_zero, List.getElem?_cons_succ] at q0 q1
  simp only [Array.getD_eq_getD_getElem?] at hp
  simp [results, h, go_sem, hp, q0, q1]

set_option maxRecDepth 100000 in
set_option maxHeartbeats 4000000 in
theorem yrlist_any (k : List UInt8) (A : Option Addr) (n c : Nat) (Z : List ItL) (w : World) (hk : k.length ≤ 60000) (hA : IR w A Z) (hl : Z.length = n) (hn : n ≤ 1024) (hx : ∀ x ∈ Z, x.1 < 18446744073709551616) :
    Calls Tryd.prog 36 #[.string ⟨k.toArray⟩, .slice A n c] w fun e w' => ∃ g cB, e = .returned (ytv A (some ⟨g, 0, none⟩) n c cB) ∧ VR vi w' (some ⟨g, 0, none⟩) (hsL k (ikeys Z)) ∧ Below w.heap.size w w' := by
  have HKl : Hid ((ikeys Z).length = n) := Lib.hid (by rw [ikeys_len, hl])
  have HXl : ∀ x ∈ ikeys Z, x < 18446744073709551616 := fun x hx2 => by
    simp only [ikeys, List.mem_map] at hx2
    obtain ⟨y, hy, rfl⟩ := hx2
    exact hx y hy
  have TK := Lib.hid (fun W (hW : Below w.heap.size w W) => irkeys_any A n c Z W (hA.later hW) hl (by omega))
  have TH := Lib.hid (fun B d W (hB : VR vu W B (ikeys Z)) => vrheights_any k B n d (ikeys Z) W hk hB HKl.out HXl (by omega))
  have HHl : Hid ((hsL k (ikeys Z)).length = n) := Lib.hid (by rw [hsL_len, HKl.out])
  clear hA hl hx hk HXl
  generalize hsL k (ikeys Z) = HH at *
  generalize ikeys Z = K at *
  have hk0 := Blk.new w 65 #[.slice none 0 0, .slice none 0 0]
  have hb0 := ba (Below.refl w.heap.size w) (.cells #[.slice none 0 0, .slice none 0 0] 65)
  go_enter Tryd.func36, Tryd.ntmps36
  go_wp2_with fail
  refine (TK.out _ hb0).mono ?_
  rintro e w1 ⟨g1, c1, rfl, ho1, hb1⟩
  have hV1 := own_VR (q := vu) ho1 HKl.out
  have hk1 := hk0.below hb1
  have hB1 := bt hb0 hb1
  clear ho1 hk0 hb0
  go_wp2_with fail
  refine (TH.out _ _ _ hV1).mono ?_
  rintro e w2 ⟨g2, c2, rfl, ho2, hb2⟩
  have hV2 := own_VR (q := vi) ho2 HHl.out
  have hk2 := hk1.below hb2
  have hB2 := bt hB1 hb2
  have hg2 : g2 ≠ w.heap.size := by
    have h1 := (ho2.lt g2 rfl).1
    have h2 := hk1.lt
    omega
  have k0 := hk2.cell 0
  have k1 := hk2.cell 1
  have f0 := hk2.frozen 0
  have f1 := hk2.frozen 1
  have KK := Lib.hid ((hk2.set_ 0 (.slice A n c)).set_ 1 (.slice (some ⟨g2, 0, none⟩) n c2))
  have HB := Lib.hid (bs (b := w.heap.size) (o := 1) (bs (b := w.heap.size) (o := 0) hB2 (Nat.le_refl _) (.slice A n c)) (Nat.le_refl _) (.slice (some ⟨g2, 0, none⟩) n c2))
  have HV := Lib.hid (show VR vi ((w2.setCell ⟨w.heap.size, 0, none⟩ (.slice A n c)).setCell ⟨w.heap.size, 1, none⟩ (.slice (some ⟨g2, 0, none⟩) n c2)) (some ⟨g2, 0, none⟩) HH from hV2.kp fun a e => by
    cases e
    exact (Below.heap_setCell _ ⟨w.heap.size, 1, none⟩ _ g2 hg2).trans (Below.heap_setCell _ ⟨w.heap.size, 0, none⟩ _ g2 hg2))
  clear ho2 hV1 hV2 hk1 hk2 hB1 hB2 hb1 hb2 hg2
  go_wp2_with fail
  refine bodyPost_ret (yt_result rfl KK.out) rfl ?_
  exact ⟨g2, c2, rfl, HV.out, HB.out⟩

set_option maxRecDepth 100000 in
set_option maxHeartbeats 4000000 in
theorem yrRoot_any (k : List UInt8) (A : Option Addr) (n c : Nat) (Z : List ItL) (w : World) (hk : k.length ≤ 60000) (hA : IR w A Z) (hl : Z.length = n) (hn : n ≤ 1024) (hx : ∀ x ∈ Z, x.1 < 18446744073709551616) (hs : ∀ x ∈ Z, x.2.length ≤ 4096) :
    Calls Tryd.prog 17 #[.string ⟨k.toArray⟩, .slice A n c] w fun e w' => e = .returned (.string ⟨(yroot k Z).toArray⟩) ∧ Below w.heap.size w w' := by
  have TL := Lib.hid (yrlist_any k A n c Z w hk hA hl hn hx)
  have HHl : (hsL k (ikeys Z)).length = n := by rw [hsL_len, ikeys_len, hl]
  have TO := Lib.hid (fun g cB W (hV : VR vi W (some ⟨g, 0, none⟩) (hsL k (ikeys Z))) (hW : Below w.heap.size w W) => show Calls Tryd.prog 35 #[ytv A (some ⟨g, 0, none⟩) n c cB, .int .i64 (-1), .int .i64 8] W fun e w' => e = .returned (.string ⟨(yroot k Z).toArray⟩) ∧ Below W.heap.size W w' from
    yof_any n c cB A (some ⟨g, 0, none⟩) Z (hsL k (ikeys Z)) W (hA.later hW) hV hl HHl hn hx hs 8 0 W (by omega) (by omega) (Below.refl _ _))
  clear hA hl hx hs hk HHl
  generalize hsL k (ikeys Z) = HH at *
  generalize yroot k Z = t at *
  go_enter Tryd.func17, Tryd.ntmps17
  go_wp2_with fail
  refine TL.out.mono ?_
  rintro e w1 ⟨g, cB, rfl, hV, hb1⟩
  have T1 := Lib.hid (TO.out g cB w1 hV hb1)
  clear hV
  go_wp2_with fail
  refine T1.out.mono ?_
  rintro e w2 ⟨rfl, hb2⟩
  have hb3 := bt hb1 hb2
  go_wp2
  go_ret
  exact ⟨rfl, hb3⟩

set_option maxRecDepth 100000 in
set_option maxHeartbeats 8000000 in
theorem yrRow_any (k : List UInt8) (A : Option Addr) (n c lev : Nat) (Z : List ItL) (w : World) (hlev : lev ≤ 8) (hk : k.length ≤ 60000) (hA : IR w A Z) (hl : Z.length = n) (hn : n ≤ 1024) (hx : ∀ x ∈ Z, x.1 < 18446744073709551616) (hs : ∀ x ∈ Z, x.2.length ≤ 4096) :
    Calls Tryd.prog 19 #[.string ⟨k.toArray⟩, .slice A n c, .int .i64 (lev : Int)] w fun e w' => ∃ X d, e = .returned (.slice X (yrowL k Z lev).length d) ∧ SR w' X (yrowL k Z lev) ∧ Below w.heap.size w w' := by
  obtain ⟨si, hsi, jy0, jy1, jy2⟩ := info_parts infoS
  have TL := Lib.hid (yrlist_any k A n c Z w hk hA hl hn hx)
  have HHl : Hid ((hsL k (ikeys Z)).length = n) := Lib.hid (by rw [hsL_len, ikeys_len, hl])
  have TO := Lib.hid (fun g cB W (hV : VR vi W (some ⟨g, 0, none⟩) (hsL k (ikeys Z))) (hW : Below w.heap.size w W) => show Calls Tryd.prog 35 #[ytv A (some ⟨g, 0, none⟩) n c cB, .int .i64 (-1), .int .i64 (lev : Int)] W fun e w' => e = .returned (.string ⟨(ylab (ybase Z) (yht k Z) lev 0).toArray⟩) ∧ Below W.heap.size W w' from
    yof_any n c cB A (some ⟨g, 0, none⟩) Z (hsL k (ikeys Z)) W (hA.later hW) hV hl HHl.out hn hx hs lev 0 W (by omega) (by omega) (Below.refl _ _))
  have TI : Hid (∀ (g cB i : Nat) (W : World), i < n → VR vi W (some ⟨g, 0, none⟩) (hsL k (ikeys Z)) → Below w.heap.size w W → Calls Tryd.prog 35 #[ytv A (some ⟨g, 0, none⟩) n c cB, .int .i64 (i : Int), .int .i64 (lev : Int)] W fun e w' => e = .returned (.string ⟨(ylab (ybase Z) (yht k Z) lev (i + 1)).toArray⟩) ∧ Below W.heap.size W w') := Lib.hid fun g cB i W hi hV hW => by
    have := yof_any n c cB A (some ⟨g, 0, none⟩) Z (hsL k (ikeys Z)) W (hA.later hW) hV hl HHl.out hn hx hs lev (i + 1) W (by omega) (by omega) (Below.refl _ _)
    rwa [show (((i + 1 : Nat) : Int) - 1) = (i : Int) by omega] at this
  have HY : Hid (∀ j, lev < (hsL k (ikeys Z)).getD j 0 → yhi (yht k Z) lev (j + 1 + 1) = yhi (yht k Z) lev (j + 1) ++ [j + 1]) := Lib.hid fun j h => yhi_yes (by rw [yht_at]; exact h)
  have HN : Hid (∀ j, ¬ lev < (hsL k (ikeys Z)).getD j 0 → yhi (yht k Z) lev (j + 1 + 1) = yhi (yht k Z) lev (j + 1)) := Lib.hid fun j h => yhi_no (by rw [yht_at]; exact h)
  have HZ := Lib.hid (yhi_head k Z lev hlev)
  have HC := Lib.hid (yhi_len (yht k Z) lev)
  have HE : Hid (yrowL k Z lev = (yhi (yht k Z) lev (n + 1)).map (ylab (ybase Z) (yht k Z) lev)) := Lib.hid (by rw [yrowL, yrow, yht_len, hl])
  rw [HE.out]
  clear hA hl hx hs hk HE
  generalize hsL k (ikeys Z) = HH at *
  generalize ylab (ybase Z) (yht k Z) lev = F at *
  generalize yhi (yht k Z) lev = G at *
  go_enter Tryd.func19, Tryd.ntmps19
  go_wp2_with fail
  refine TL.out.mono ?_
  rintro e w1 ⟨g, cB, rfl, hV, hb1⟩
  have hbx := ba hb1 (.cells #[.slice A n c, .slice (some ⟨g, 0, none⟩) n cB] 65)
  have hVx := hV.later (ba (Below.refl w1.heap.size w1) (.cells #[.slice A n c, .slice (some ⟨g, 0, none⟩) n cB] 65))
  have hkx := Blk.new w1 65 #[.slice A n c, .slice (some ⟨g, 0, none⟩) n cB]
  have T1 := Lib.hid (TO.out g cB _ hVx hbx)
  go_wp2_with fail
  refine T1.out.mono ?_
  rintro e w2 ⟨rfl, hb2⟩
  have hb2' := ba hb2 (.cells #[sv (F 0)] 9)
  have HB3 := Lib.hid (bt hbx hb2')
  have HV3 := Lib.hid (hVx.later hb2')
  have HK3 := Lib.hid (hkx.below hb2')
  have HO3 : Hid ((w2.alloc (.cells #[sv (F 0)] 9)).ownsRow (w1.heap.size + 1) 9 1 (.slice (some ⟨w2.heap.size, 0, none⟩) 1 1) 1 (((G 1).map F).map sv)) := Lib.hid (by
    rw [HZ.out]
    exact yown_one (Blk.new w2 _ _) (by have := hb2.size; rw [World.size_alloc] at this; exact this))
  have HBL : Hid (w.heap.size ≤ w1.heap.size) := Lib.hid hb1.size
  have HGL : Hid (∀ j, j < n → g < w1.heap.size) := Lib.hid fun j hj => by
    obtain ⟨g', off, e', d9⟩ := hV j (by rw [HHl.out]; exact hj)
    injection e' with e'
    injection e' with e1 e2
    subst e1
    exact World.block_lt_of_cell? _ _ d9
  clear hV hbx hVx hkx hb2 hb2' T1 TO TL
  go_wp2_with fail
  generalize w2.alloc (.cells #[sv (F 0)] 9) = w3 at HB3 HV3 HK3 HO3 ⊢
  go_loopw [8, 19] (fun ov iv wr => ∃ (j m c5 : Nat) (X : Option Addr), j ≤ n ∧ iv = .int .i64 (j : Int) ∧ ov = .slice X m c5 ∧ Hid (m = (G (j + 1)).length ∧ m ≤ j + 1) ∧ Hid (wr.ownsRow (w1.heap.size + 1) 9 1 (.slice X m c5) m (((G (j + 1)).map F).map sv)) ∧ Hid (Blk wr w1.heap.size 65 #[.slice A n c, .slice (some ⟨g, 0, none⟩) n cB]) ∧ Hid (VR vi wr (some ⟨g, 0, none⟩) HH) ∧ Hid (Below w.heap.size w wr)) (fun _ i _ => n - (intOf i).toNat)
  case atStart => exact ⟨0, 1, 1, _, Nat.zero_le _, rfl, rfl, Lib.hid ⟨by rw [HZ.out]; rfl, Nat.le_refl _⟩, HO3, HK3, HV3, HB3⟩
  case round =>
    clear HB3 HV3 HK3 HO3 HZ
    obtain ⟨j, m, c5, X, hj, rfl, rfl, HM, HO, HK, HV, HB⟩ := hrel
    have k0 := HK.out.cell 0
    have k1 := HK.out.cell 1
    simp only [List.getElem?_toArray, List.getElem?_cons_zero, List.getElem?_cons_succ] at k0 k1
    by_cases hlt : j < n
    · obtain ⟨g', off, e', d0⟩ := HV.out j (by rw [HHl.out]; exact hlt)
      injection e' with e'
      injection e' with e1 e2
      subst e1 e2
      have HYj := Lib.hid (HY.out j)
      have HNj := Lib.hid (HN.out j)
      have TIj := Lib.hid (TI.out g cB j wr hlt HV.out HB.out)
      generalize HH.getD j 0 = y at d0 HYj HNj
      have i0 : (0 : Int) ≤ (j : Int) := by omega
      have i1 : (j : Int) < (n : Int) := by omega
      have hm : m ≤ 2000 := by have := HM.out.2; omega
      rw [Nat.zero_add] at d0
      by_cases hh : lev < y
      · have HT2 := Lib.hid (HYj.out hh)
        have HM2 : Hid (m + 1 = (G (j + 1 + 1)).length ∧ m + 1 ≤ j + 1 + 1) := Lib.hid ⟨by rw [HT2.out, List.length_append, ← HM.out.1]; rfl, by have := HM.out.2; omega⟩
        have hh1 : (lev : Int) < (y : Int) := by omega
        clear HYj HNj hh
        go_wp2_with fail
        refine TIj.out.mono ?_
        rintro e w4 ⟨rfl, hb4⟩
        have hown0 := own_later HO.out hb4
        have hownA := hown0.alloc (.cells #[sv (F (j + 1))] 9)
        have hnews := World.news_of_block (heap_alloc_new w4 (.cells #[sv (F (j + 1))] 9))
        have B4 := Lib.hid (ba (bt HB.out hb4) (.cells #[sv (F (j + 1))] 9))
        have K4 := Lib.hid ((HK.out.below hb4).alloc (.cells #[sv (F (j + 1))] 9))
        have V4 := Lib.hid (HV.out.later (ba hb4 (.cells #[sv (F (j + 1))] 9)))
        have HSZ : Hid (w1.heap.size + 1 ≤ (w4.alloc (.cells #[sv (F (j + 1))] 9)).heap.size) := Lib.hid (by have := K4.out.lt; omega)
        clear hown0
        go_wp2_with (at_builtin; go_must (refine wpList_append_own _ rfl _ _ 25 rfl (w1.heap.size + 1) 9 si _ 1 16 Tryd.underlying25 hsi jy0 jy1 jy2 rfl (by decide) _ _ _ rfl hownA ⟨w4.heap.size, 0, none⟩ 1 1 [sv (F (j + 1))] rfl rfl hnews (by simp [Value.oneCell']) (by unfold maxLen; omega) (by omega) HSZ.out ?_); intro v4 w5 hown5 hgrow5 _; obtain ⟨g6, c6, rfl⟩ := ownsRow_succ hown5)
        have B5 := Lib.hid (B4.out.grown hgrow5 B4.out.size (fun k e => by have h1 := (hownA.lt k e).1; have h2 := HBL.out; omega))
        have K5 : Hid (Blk w5 w1.heap.size 65 #[.slice A n c, .slice (some ⟨g, 0, none⟩) n cB]) := Lib.hid ((hgrow5.block _ K4.out.lt (fun e => by have := (hownA.lt _ e.symm).1; omega)).trans K4.out)
        have V5 : Hid (VR vi w5 (some ⟨g, 0, none⟩) HH) := Lib.hid (V4.out.kp fun a e => by
          cases e
          have h9 := HGL.out j hlt
          exact hgrow5.block g (Nat.lt_trans h9 K4.out.lt) (fun e => by have := (hownA.lt g e.symm).1; omega))
        have W5 : Hid (w5.ownsRow (w1.heap.size + 1) 9 1 (.slice (some ⟨g6, 0, none⟩) (m + 1) c6) (m + 1) (((G (j + 1 + 1)).map F).map sv)) := Lib.hid (by rw [HT2.out, List.map_append, List.map_append]; exact hown5)
        clear hown5 hgrow5 hnews hownA hb4 k0 k1
        go_wp2_with fail
        exact ⟨⟨j + 1, m + 1, c6, _, by omega, by go_num, rfl, HM2, W5, K5, V5, B5⟩, by simp [intOf]; omega⟩
      · have HT2 := Lib.hid (HNj.out hh)
        have HM2 : Hid (m = (G (j + 1 + 1)).length ∧ m ≤ j + 1 + 1) := Lib.hid ⟨by rw [HT2.out, ← HM.out.1], by have := HM.out.2; omega⟩
        have hh1 : ¬ (lev : Int) < (y : Int) := by omega
        have W5 : Hid (wr.ownsRow (w1.heap.size + 1) 9 1 (.slice X m c5) m (((G (j + 1 + 1)).map F).map sv)) := Lib.hid (by rw [HT2.out]; exact HO.out)
        clear HYj HNj hh
        go_wp2_with fail
        exact ⟨⟨j + 1, m, c5, X, by omega, by go_num, rfl, HM2, W5, HK, HV, HB⟩, by simp [intOf]; omega⟩
    · obtain rfl : n = j := by omega
      clear k0 k1
      go_wp2
      go_ret
      refine ⟨X, c5, by rw [List.length_map, ← HM.out.1]; rfl, ?_, HB.out⟩
      exact own_SR' (L := (G (n + 1)).map F) HO.out (by rw [List.length_map, ← HM.out.1])
end Go.Proofs.YthllanndiahdjaaDoor
/- The walk of LabelRows. -/
namespace Go.Proofs.YthllanndiahdjaaDoor
open Go.RowKit

theorem ysame_same (A B : Option Addr) (c d : Nat) (P : List (List UInt8)) (w : World) (hA : SR w A P) (hB : SR w B P) (hn : P.length ≤ 65536) :
    Calls Tryd.prog 18 #[.slice A P.length c, .slice B P.length d] w fun e w' => e = .returned (.bool true) ∧ Below w.heap.size w w' := by
  have h := jsame_any A B c d P.length P.length P P w hA hB rfl rfl hn hn
  rwa [show decide (P = P) = true from decide_eq_true rfl] at h

set_option maxRecDepth 100000 in
set_option maxHeartbeats 16000000 in
theorem ylawR_any (k0 : List UInt8) (A : Option Addr) (c : Nat) (lev : Int) (L0 : List ItL) (w : World) (hA0 : IR w A L0) (hc0 : L0.length ≤ c) (hx0 : ∀ x ∈ L0, x.1 < 18446744073709551616) (hT : VTab w) :
    Calls Tryd.prog 4 #[.string ⟨k0.toArray⟩, .slice A L0.length c, .int .i64 lev] w fun e w' => e = .returned (.bool true) ∧ Below w.heap.size w w' := by
  have hz0 := size_mk k0
  obtain ⟨N, hN⟩ : ∃ N, k0.length = N := ⟨_, rfl⟩
  obtain ⟨M, hM⟩ : ∃ M, L0.length = M := ⟨_, rfl⟩
  rw [hN] at hz0
  rw [hM] at hc0 ⊢
  obtain ⟨a, ha⟩ : ∃ a, min N 80 = a := ⟨_, rfl⟩
  obtain ⟨n, hn⟩ : ∃ n, min M 14 = n := ⟨_, rfl⟩
  have hex := extract_take k0 a
  have hkl : (k0.take a).length ≤ 60000 := by rw [List.length_take]; omega
  have hl9 : (L0.take n).length = n := by rw [List.length_take]; omega
  have hA : IR w A (L0.take n) := hA0.take n
  have hx9 : ∀ x ∈ L0.take n, x.1 < 18446744073709551616 := fun x hx => hx0 x (List.mem_of_mem_take hx)
  have h1 : (a : Int) ≤ (N : Int) := by omega
  have h2 : min (N : Int) 80 = (a : Int) := by omega
  have h3 : a ≤ N := by omega
  have h4 : min (M : Int) 14 = (n : Int) := by omega
  have hsl := icut_run A M c n (by omega)
  have hn14 : n ≤ 14 := by omega
  have hc : n ≤ c := by omega
  clear hA0 ha hn hN hM hx0
  generalize L0.take n = L at *
  generalize k0.take a = key at *
  have HAL := Lib.hid (fun W (hb : Below w.heap.size w W) => yalive_any W (hT.later hb))
  have HRO := Lib.hid (fun W (hb : Below w.heap.size w W) => yRow_any key A n c lev L W hkl (hA.later hb) hl9 (by omega) hx9 (hT.later hb))
  have HRT := Lib.hid (fun W (hb : Below w.heap.size w W) => yRoot_any key A n c L W hkl (hA.later hb) hl9 (by omega) hx9 (hT.later hb))
  have HRR := Lib.hid (fun W (hb : Below w.heap.size w W) => irright_ref A n c L W (hA.later hb) hl9 hc (by omega))
  by_cases hr : IRt L
  · rw [decide_eq_true hr] at HRR
    have HRF := Lib.hid (fun W (hb : Below w.heap.size w W) => yrRoot_any key A n c L W hkl (hA.later hb) hl9 (by omega) hx9 (fun x hx => Nat.le_trans (hr.val x hx) (by omega)))
    rw [show yrootE L = 0 by rw [yrootE, if_pos hr], show yrootRes key L = yroot key L by rw [yrootRes, if_pos hr]] at HRT
    generalize yroot key L = t at HRT HRF
    by_cases hlv : 0 ≤ lev ∧ lev ≤ 8
    · obtain ⟨q, rfl⟩ : ∃ q : Nat, lev = (q : Int) := ⟨lev.toNat, by omega⟩
      obtain ⟨e1, e2⟩ := yrowE_yes q key hr (by omega)
      rw [e1, e2] at HRO
      have HRW := Lib.hid (fun W (hb : Below w.heap.size w W) => yrRow_any key A n c q L W (by omega) hkl (hA.later hb) hl9 (by omega) hx9 (fun x hx => Nat.le_trans (hr.val x hx) (by omega)))
      have HTL : Hid ((yrowL key L q).length ≤ 65536) := Lib.hid (by have := yrowL_le key L q; omega)
      generalize yrowL key L q = T at *
      have i0 : ¬ (q : Int) < 0 := by omega
      have i8 : ¬ (8 : Int) < (q : Int) := by omega
      clear hA hl9 hx9 hkl hT e1 e2 hr hlv
      go_enter Tryd.func4, Tryd.ntmps4
      go_wp2_with fail
      go_quiet (fail)
      have hb0 : Below w.heap.size w (w.drewN nq) := below_drewN (Below.refl _ _) _
      generalize w.drewN nq = w0 at hb0 ⊢
      have B0 := Lib.hid hb0
      clear hsl hex hz0 h1 h2 h3 h4 hc0 hb0
      go_wp2_with fail
      refine (HRO.out _ B0.out).mono ?_
      rintro e w1 ⟨C1, d1, rfl, hS1, hb⟩
      have HS := Lib.hid hS1
      clear hS1
      have B1 := Lib.hid (bt B0.out hb)
      clear hb B0
      go_wp2_with fail
      refine (HRT.out _ B1.out).mono ?_
      rintro e w2 ⟨rfl, hb⟩
      have B2 := Lib.hid (bt B1.out hb)
      replace HS := Lib.hid (HS.out.later hb)
      clear hb B1
      go_wp2_with fail
      refine (HRR.out _ B2.out).mono ?_
      rintro e w3 ⟨rfl, hb⟩
      have B3 := Lib.hid (bt B2.out hb)
      replace HS := Lib.hid (HS.out.later hb)
      clear hb B2
      go_wp2_with fail
      refine (HRF.out _ B3.out).mono ?_
      rintro e w4 ⟨rfl, hb⟩
      have B4 := Lib.hid (bt B3.out hb)
      replace HS := Lib.hid (HS.out.later hb)
      clear hb B3
      go_wp2_with fail
      refine (HAL.out _ B4.out).mono ?_
      rintro e w5 ⟨rfl, hb⟩
      have B5 := Lib.hid (bt B4.out hb)
      replace HS := Lib.hid (HS.out.later hb)
      clear hb B4
      go_wp2_with fail
      refine (HRW.out _ B5.out).mono ?_
      rintro e w6 ⟨X2, d2, rfl, hS2, hb⟩
      have B6 := Lib.hid (bt B5.out hb)
      have TS := Lib.hid (ysame_same C1 X2 d1 d2 T w6 (HS.out.later hb) hS2 HTL.out)
      clear hb B5 hS2 HS
      go_wp2_with fail
      refine TS.out.mono ?_
      rintro e w7 ⟨rfl, hb⟩
      have B7 := Lib.hid (bt B6.out hb)
      clear hb B6 TS
      go_wp2
      go_ret
      exact ⟨rfl, B7.out⟩
    · obtain ⟨e1, e2⟩ := yrowE_range key hr hlv
      rw [e1, e2] at HRO
      clear hA hl9 hx9 hkl hT e1 e2 hr
      by_cases i0 : lev < 0
      · clear hlv
        go_enter Tryd.func4, Tryd.ntmps4
        go_wp2_with fail
        go_quiet (fail)
        have hb0 : Below w.heap.size w (w.drewN nq) := below_drewN (Below.refl _ _) _
        generalize w.drewN nq = w0 at hb0 ⊢
        have B0 := Lib.hid hb0
        clear hsl hex hz0 h1 h2 h3 h4 hc0 hb0
        go_wp2_with fail
        refine (HRO.out _ B0.out).mono ?_
        rintro e w1 ⟨C1, d1, rfl, hS1, hb⟩
        clear hS1
        have B1 := Lib.hid (bt B0.out hb)
        clear hb B0
        go_wp2_with fail
        refine (HRT.out _ B1.out).mono ?_
        rintro e w2 ⟨rfl, hb⟩
        have B2 := Lib.hid (bt B1.out hb)
        clear hb B1
        go_wp2_with fail
        refine (HRR.out _ B2.out).mono ?_
        rintro e w3 ⟨rfl, hb⟩
        have B3 := Lib.hid (bt B2.out hb)
        clear hb B2
        go_wp2_with fail
        refine (HRF.out _ B3.out).mono ?_
        rintro e w4 ⟨rfl, hb⟩
        have B4 := Lib.hid (bt B3.out hb)
        clear hb B3
        go_wp2_with fail
        refine (HAL.out _ B4.out).mono ?_
        rintro e w5 ⟨rfl, hb⟩
        have B5 := Lib.hid (bt B4.out hb)
        clear hb B4
        go_wp2
        go_ret
        exact ⟨rfl, B5.out⟩
      · have i8 : 8 < lev := by omega
        clear hlv
        go_enter Tryd.func4, Tryd.ntmps4
        go_wp2_with fail
        go_quiet (fail)
        have hb0 : Below w.heap.size w (w.drewN nq) := below_drewN (Below.refl _ _) _
        generalize w.drewN nq = w0 at hb0 ⊢
        have B0 := Lib.hid hb0
        clear hsl hex hz0 h1 h2 h3 h4 hc0 hb0
        go_wp2_with fail
        refine (HRO.out _ B0.out).mono ?_
        rintro e w1 ⟨C1, d1, rfl, hS1, hb⟩
        clear hS1
        have B1 := Lib.hid (bt B0.out hb)
        clear hb B0
        go_wp2_with fail
        refine (HRT.out _ B1.out).mono ?_
        rintro e w2 ⟨rfl, hb⟩
        have B2 := Lib.hid (bt B1.out hb)
        clear hb B1
        go_wp2_with fail
        refine (HRR.out _ B2.out).mono ?_
        rintro e w3 ⟨rfl, hb⟩
        have B3 := Lib.hid (bt B2.out hb)
        clear hb B2
        go_wp2_with fail
        refine (HRF.out _ B3.out).mono ?_
        rintro e w4 ⟨rfl, hb⟩
        have B4 := Lib.hid (bt B3.out hb)
        clear hb B3
        go_wp2_with fail
        refine (HAL.out _ B4.out).mono ?_
        rintro e w5 ⟨rfl, hb⟩
        have B5 := Lib.hid (bt B4.out hb)
        clear hb B4
        go_wp2
        go_ret
        exact ⟨rfl, B5.out⟩
  · rw [decide_eq_false hr] at HRR
    obtain ⟨e1, e2⟩ := yrowE_bad (lev := lev) key hr
    rw [e1, e2] at HRO
    rw [show yrootE L = 1 by rw [yrootE, if_neg hr], show yrootRes key L = [] by rw [yrootRes, if_neg hr]] at HRT
    clear hA hl9 hx9 hkl hT e1 e2 hr
    go_enter Tryd.func4, Tryd.ntmps4
    go_wp2_with fail
    go_quiet (fail)
    have hb0 : Below w.heap.size w (w.drewN nq) := below_drewN (Below.refl _ _) _
    generalize w.drewN nq = w0 at hb0 ⊢
    have B0 := Lib.hid hb0
    clear hsl hex hz0 h1 h2 h3 h4 hc0 hb0
    go_wp2_with fail
    refine (HRO.out _ B0.out).mono ?_
    rintro e w1 ⟨C1, d1, rfl, hS1, hb⟩
    clear hS1
    have B1 := Lib.hid (bt B0.out hb)
    clear hb B0
    go_wp2_with fail
    refine (HRT.out _ B1.out).mono ?_
    rintro e w2 ⟨rfl, hb⟩
    have B2 := Lib.hid (bt B1.out hb)
    clear hb B1
    go_wp2_with fail
    refine (HRR.out _ B2.out).mono ?_
    rintro e w3 ⟨rfl, hb⟩
    have B3 := Lib.hid (bt B2.out hb)
    clear hb B2
    go_wp2_with fail
    refine (HAL.out _ B3.out).mono ?_
    rintro e w4 ⟨rfl, hb⟩
    have B4 := Lib.hid (bt B3.out hb)
    clear hb B3
    go_wp2
    go_ret
    exact ⟨rfl, B4.out⟩
end Go.Proofs.YthllanndiahdjaaDoor
/- Items put and dropped, in plain lists. Nothing of any function. -/
namespace Go.Proofs.YthllanndiahdjaaDoor

theorem ymade_root (k : List UInt8) {L : List ItL} (h : IRt L) : yrootE L = 0 ∧ yrootRes k L = yroot k L := ⟨by rw [yrootE, if_pos h], by rw [yrootRes, if_pos h]⟩
theorem ymade_lt {L : List ItL} {x : ItL} (h : ∀ z ∈ L, z.1 < 18446744073709551616) (hx : x.1 < 18446744073709551616) : ∀ z ∈ iput L x, z.1 < 18446744073709551616 := fun z hz => by
  rcases iput_mem.1 hz with rfl | ⟨h1, _⟩
  · exact hx
  · exact h z h1
theorem ymade_drop {L : List ItL} {k : Nat} (h : ∀ z ∈ L, z.1 < 18446744073709551616) : ∀ z ∈ idrop L k, z.1 < 18446744073709551616 := fun z hz => h z (List.mem_filter.1 hz).1
theorem ihas_put {L : List ItL} (x : ItL) : ihas (iput L x) x.1 := ⟨x, iput_mem.2 (.inl rfl), rfl⟩
theorem ihas_keep {L : List ItL} {x : ItL} {k : Nat} (h : ihas L k) (hne : x.1 ≠ k) : ihas (iput L x) k := by
  obtain ⟨z, hz, e⟩ := h
  exact ⟨z, iput_mem.2 (.inr ⟨hz, by rw [e]; exact fun e2 => hne e2.symm⟩), e⟩
theorem ihas_drop {L : List ItL} {j k : Nat} (h : ihas L k) (hne : k ≠ j) : ihas (idrop L j) k := by
  obtain ⟨z, hz, e⟩ := h
  exact ⟨z, List.mem_filter.2 ⟨hz, by simp [e, hne]⟩, e⟩
/-- Two put, two dropped: those that had other numbers. -/
theorem ymade_back {L : List ItL} {x y : ItL} (h : IUp L) (hl : (idrop (idrop (iput (iput L x) y) x.1) y.1).length = L.length) : idrop (idrop (iput (iput L x) y) x.1) y.1 = L := by
  have e : idrop (idrop (iput (iput L x) y) x.1) y.1 = L.filter fun z => decide (z.1 ≠ x.1) && decide (z.1 ≠ y.1) := by
    refine iup_ext (iup_filter _ (iup_filter _ (iup_put y (iup_put x h)))) (iup_filter _ h) fun z => ?_
    simp only [idrop, List.mem_filter, iput_mem, decide_eq_true_eq, Bool.and_eq_true]
    constructor
    · rintro ⟨⟨h1 | ⟨h1 | ⟨h1, h2⟩, h3⟩, h4⟩, h5⟩
      · exact absurd (by rw [h1]) h5
      · exact absurd (by rw [h1]) h4
      · exact ⟨h1, h4, h5⟩
    · rintro ⟨h1, h2, h3⟩
      exact ⟨⟨.inr ⟨.inr ⟨h1, h2⟩, h3⟩, h2⟩, h3⟩
  rw [e] at hl ⊢
  exact List.Sublist.eq_of_length List.filter_sublist hl
/-- What the rows' lengths are held against: the list's, and one; then the row's below. -/
def ylast (k : List UInt8) (L : List ItL) (n : Nat) : Nat → Nat
  | 0 => n + 1
  | j + 1 => (yrowL k L j).length
theorem ylast_le (k : List UInt8) (L : List ItL) (n : Nat) (h : L.length = n) (j : Nat) : (yrowL k L j).length ≤ ylast k L n j := by
  cases j with
  | zero => have := yrowL_le k L 0; rw [ylast]; omega
  | succ j => exact yrow_less _ _ _
theorem yrowL_no (k : List UInt8) (L : List ItL) (j : Nat) : ¬ YNo (yrowL k L j) := fun ⟨t, h1, h2⟩ => h2 (yrowL_32 k L j _ (by rw [List.getD, List.getElem?_eq_getElem h1]; exact List.getElem_mem h1))
end Go.Proofs.YthllanndiahdjaaDoor
