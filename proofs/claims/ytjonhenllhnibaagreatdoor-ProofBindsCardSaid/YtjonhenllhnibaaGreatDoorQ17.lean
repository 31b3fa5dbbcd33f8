/- Texts of this seat, one behind the other: YOf, YBack, YPiece, YRound. -/
import Derived.BigQuiet
import Derived.Test.YtjonhenllhnibaaGreatDoorQ13
import Derived.Test.YtjonhenllhnibaaGreatDoorQ15
import Derived.Test.YtjonhenllhnibaaGreatDoorQ16
/- The contracts of the reference's From and Of: the label of a place on a level. -/
namespace Go.Proofs.YtjonhenllhnibaaGreatDoor
open Go.RowKit

/-- A list and its heights. -/
abbrev ytv (A B : Option Addr) (n cA cB : Nat) : Value := .agg #[.slice A n cA, .slice B n cB]
/-- The places from one on, as far as the loop has come. -/
def yfr (H : List Nat) (lev q j : Nat) : List Nat := q :: (List.range' (q + 1) j).filter fun i => decide (lev < H.getD i 0)
theorem yfr_zero (H : List Nat) (lev q : Nat) : yfr H lev q 0 = [q] := rfl
theorem yfr_yes {H : List Nat} {lev q j : Nat} (h : lev < H.getD (q + 1 + j) 0) : yfr H lev q (j + 1) = yfr H lev q j ++ [q + 1 + j] := by
  rw [yfr, yfr, List.range'_concat, List.filter_append, List.filter_cons, List.filter_nil, Nat.one_mul, if_pos (by simpa using h), List.cons_append]
theorem yfr_no {H : List Nat} {lev q j : Nat} (h : ¬ lev < H.getD (q + 1 + j) 0) : yfr H lev q (j + 1) = yfr H lev q j := by
  rw [yfr, yfr, List.range'_concat, List.filter_append, List.filter_cons, List.filter_nil, Nat.one_mul, if_neg (by simpa using h), List.append_nil]
theorem yfr_len (H : List Nat) (lev q j : Nat) : 1 ≤ (yfr H lev q j).length ∧ (yfr H lev q j).length ≤ j + 1 := by
  have := List.length_filter_le (fun i => decide (lev < H.getD i 0)) (List.range' (q + 1) j)
  rw [List.length_range'] at this
  simp only [yfr, List.length_cons]
  omega
theorem yfrom_len (H : List Nat) (lev q : Nat) (h : q < H.length) : (yfrom H lev q).length ≤ H.length := by
  have h1 := List.length_filter_le (fun i => decide (lev < H.getD i 0)) ((List.range' (q + 1) (H.length - (q + 1))).takeWhile (fun i => !decide (lev + 1 < H.getD i 0)))
  have h2 := (List.takeWhile_prefix (fun i => !decide (lev + 1 < H.getD i 0)) (l := List.range' (q + 1) (H.length - (q + 1)))).length_le
  rw [List.length_range'] at h2
  simp only [yfrom, List.length_cons]
  omega

set_option maxRecDepth 100000 in
set_option maxHeartbeats 8000000 in
theorem yfrom_any (lev q n cA cB : Nat) (A B : Option Addr) (H : List Nat) (F : Nat → List UInt8) (w : World) (hB : VR vi w B H) (hl : H.length = n) (hq : q ≤ n) (hn : n ≤ 1024)
    (hOf : ∀ p W, p ≤ n → Below w.heap.size w W → Calls Tryz.prog 37 #[ytv A B n cA cB, .int .i64 ((p : Int) - 1), .int .i64 (lev : Int)] W fun e w' => e = .returned (.string ⟨(F p).toArray⟩) ∧ Below W.heap.size W w') :
    Calls Tryz.prog 58 #[ytv A B n cA cB, .int .i64 ((q : Int) - 1), .int .i64 (lev : Int), .int .i64 ((lev : Int) + 1)] w fun e w' => ∃ X c, e = .returned (.slice X (yfrom (9 :: H) lev q).length c) ∧ w'.ownsRow w.heap.size 9 1 (.slice X (yfrom (9 :: H) lev q).length c) (yfrom (9 :: H) lev q).length (((yfrom (9 :: H) lev q).map F).map sv) ∧ Below w.heap.size w w' := by
  obtain ⟨si, hsi, jy0, jy1, jy2⟩ := info_parts infoS
  have HR := Lib.hid (fun j W (hj : j < n) (hb : Below w.heap.size w W) => (hB.later hb) j (by omega))
  have HO1 := Lib.hid (fun W (hb : Below w.heap.size w W) => hOf q W hq hb)
  have HO2 : Hid (∀ i W, i < n → Below w.heap.size w W → Calls Tryz.prog 37 #[ytv A B n cA cB, .int .i64 (i : Int), .int .i64 (lev : Int)] W fun e w' => e = .returned (.string ⟨(F (i + 1)).toArray⟩) ∧ Below W.heap.size W w') := Lib.hid fun i W hi hb => by
    have := hOf (i + 1) W (by omega) hb
    rwa [show (((i + 1 : Nat) : Int) - 1) = (i : Int) by omega] at this
  have HIS : Hid (∀ j, q + j ≤ n → (∀ i, i < j → ¬ lev + 1 < H.getD (q + i) 0) → (q + j = n ∨ lev + 1 < H.getD (q + j) 0) → yfrom (9 :: H) lev q = yfr (9 :: H) lev q j) := Lib.hid fun j hj h1 h2 => by
    have e : ∀ i, (9 :: H).getD (q + 1 + i) 0 = H.getD (q + i) 0 := fun i => by rw [show q + 1 + i = q + i + 1 by omega]; rfl
    exact yfrom_is (9 :: H) lev q j (by rw [List.length_cons]; omega) (fun i hi => by rw [e]; exact h1 i hi) (by rw [e, List.length_cons]; exact h2.imp (fun h3 => by omega) id)
  have HY : Hid (∀ j, lev < H.getD (q + j) 0 → yfr (9 :: H) lev q (j + 1) = yfr (9 :: H) lev q j ++ [q + j + 1]) := Lib.hid fun j h => by
    have e : (9 :: H).getD (q + 1 + j) 0 = H.getD (q + j) 0 := by rw [show q + 1 + j = q + j + 1 by omega]; rfl
    rw [yfr_yes (by rw [e]; exact h), show q + 1 + j = q + j + 1 by omega]
  have HN : Hid (∀ j, ¬ lev < H.getD (q + j) 0 → yfr (9 :: H) lev q (j + 1) = yfr (9 :: H) lev q j) := Lib.hid fun j h => by
    have e : (9 :: H).getD (q + 1 + j) 0 = H.getD (q + j) 0 := by rw [show q + 1 + j = q + j + 1 by omega]; rfl
    exact yfr_no (by rw [e]; exact h)
  have HC := Lib.hid (yfr_len (9 :: H) lev q)
  have HZ := Lib.hid (yfr_zero (9 :: H) lev q)
  generalize yfrom (9 :: H) lev q = T at *
  generalize yfr (9 :: H) lev q = G at *
  clear hB hl hOf
  have hb0 := ba (Below.refl w.heap.size w) (.cells #[.slice A n cA, .slice B n cB] 38)
  have hk0 := Blk.new w 38 #[.slice A n cA, .slice B n cB]
  go_enter Tryz.func58, Tryz.ntmps58
  go_wp2_with fail
  refine (HO1.out _ hb0).mono ?_
  rintro e w1 ⟨rfl, hb1⟩
  have HK1 := Lib.hid ((hk0.below hb1).alloc (.cells #[sv (F q)] 9))
  have HB1 := Lib.hid (ba (bt hb0 hb1) (.cells #[sv (F q)] 9))
  have HW1 : Hid ((w1.alloc (.cells #[sv (F q)] 9)).ownsRow (w.heap.size + 1) 9 1 (.slice (some ⟨w1.heap.size, 0, none⟩) 1 1) 1 (((G 0).map F).map sv)) := Lib.hid (by
    rw [HZ.out]
    exact yown_one (Blk.new w1 _ _) (by have := hb1.size; rw [World.size_alloc] at this; exact this))
  clear hb0 hk0 hb1 HO1 HZ
  go_wp2_with fail
  have w0 : IntKind.i64.wrap ((q : Int) - 1 + 1) = (q : Int) := by rw [IntKind.wrap_i64]; omega
  generalize w1.alloc (.cells #[sv (F q)] 9) = w2 at HK1 HB1 HW1 ⊢
  have hb0 := ba (Below.refl w.heap.size w) (.cells #[.slice A n cA, .slice B n cB] 38)
  go_loopw [9, 10] (fun ov iv wr => ∃ (j p m c : Nat) (X : Option Addr), q + j = p ∧ p ≤ n ∧ iv = .int .i64 (p : Int) ∧ ov = .slice X m c ∧ Hid (m = (G j).length) ∧ Hid (∀ i, i < j → ¬ lev + 1 < H.getD (q + i) 0) ∧ Hid (wr.ownsRow (w.heap.size + 1) 9 1 (.slice X m c) m (((G j).map F).map sv)) ∧ Hid (Blk wr w.heap.size 38 #[.slice A n cA, .slice B n cB]) ∧ Hid (Below w.heap.size w wr)) (fun _ i _ => n - (intOf i).toNat)
  case atStart => exact ⟨0, q, 1, 1, _, Nat.add_zero _, hq, rfl, rfl, Lib.hid (by have := HW1.out.1; rw [List.length_map, List.length_map, Nat.mul_one] at this; exact this.symm), Lib.hid (fun i hi => absurd hi (Nat.not_lt_zero _)), HW1, HK1, HB1⟩
  case round =>
    clear HK1 HB1 HW1 w0
    obtain ⟨j, p, m, c, X, hp, hpn, rfl, rfl, HM, HNO, HO, HK, HB⟩ := hrel
    have HP := Lib.hid hp
    have hmn : m ≤ n + 1 := by have := (HC.out j).2; have := HM.out; omega
    have k0 := HK.out.cell 0
    have k1 := HK.out.cell 1
    simp only [List.getElem?_toArray, List.getElem?_cons_zero, List.getElem?_cons_succ] at k0 k1
    by_cases hlt : p < n
    · obtain ⟨g, off, rfl, d0⟩ := HR.out p wr hlt HB.out
      have HYj := HY.out j
      have HNj := HN.out j
      have HIj := HIS.out j (by omega) HNO.out
      have HNX : ¬ lev + 1 < H.getD p 0 → ∀ i, i < j + 1 → ¬ lev + 1 < H.getD (q + i) 0 := fun h i hi => by
        rcases Nat.lt_or_ge i j with h2 | h2
        · exact HNO.out i h2
        · obtain rfl : i = j := by omega
          rw [hp]
          exact h
      rw [hp] at HYj HNj HIj
      have HYj := Lib.hid HYj
      have HNj := Lib.hid HNj
      have HIj := Lib.hid HIj
      have HNX := Lib.hid HNX
      have HOj := Lib.hid (HO2.out p wr hlt HB.out)
      have i0 : (0 : Int) ≤ (p : Int) := by omega
      have i1 : (p : Int) < (n : Int) := by omega
      generalize H.getD p 0 = y at d0 HYj HNj HIj HNX
      by_cases hy : lev + 1 < y
      · have HE := Lib.hid (HIj.out (.inr hy))
        have hy1 : (lev : Int) + 1 < (y : Int) := by omega
        clear HYj HNj HIj HNX hy hp
        go_wp2
        go_ret
        refine ⟨X, c, by rw [HE.out, ← HM.out]; rfl, ?_, HB.out⟩
        rw [HE.out, ← HM.out]
        exact yown_base HO.out (by omega)
      · have HNX2 := Lib.hid (HNX.out hy)
        have hy1 : ¬ (lev : Int) + 1 < (y : Int) := by omega
        by_cases hh : lev < y
        · have HT2 := Lib.hid (HYj.out hh)
          have hh1 : (lev : Int) < (y : Int) := by omega
          have HM2 : Hid (m + 1 = (G (j + 1)).length) := Lib.hid (by rw [HT2.out, List.length_append, ← HM.out]; rfl)
          clear HYj HNj HIj HNX hy hh hp
          go_wp2_with fail
          refine HOj.out.mono ?_
          rintro e w3 ⟨rfl, hb3⟩
          have hown0 := own_later HO.out hb3
          have hownA := hown0.alloc (.cells #[sv (F (p + 1))] 9)
          have hnews := World.news_of_block (heap_alloc_new w3 (.cells #[sv (F (p + 1))] 9))
          have B3 := Lib.hid (ba (bt HB.out hb3) (.cells #[sv (F (p + 1))] 9))
          have K3 := Lib.hid ((HK.out.below hb3).alloc (.cells #[sv (F (p + 1))] 9))
          have HSZ : Hid (w.heap.size + 1 ≤ (w3.alloc (.cells #[sv (F (p + 1))] 9)).heap.size) := Lib.hid (by have := K3.out.lt; omega)
          clear hown0
          go_wp2_with (at_builtin; refine wpList_append_own _ rfl _ _ 43 rfl (w.heap.size + 1) 9 si _ 1 16 Tryz.underlying43 hsi jy0 jy1 jy2 rfl (by decide) _ _ _ rfl hownA ⟨w3.heap.size, 0, none⟩ 1 1 [sv (F (p + 1))] rfl rfl hnews (by simp [Value.oneCell']) (by unfold maxLen; omega) (by omega) HSZ.out ?_; intro v4 w5 hown5 hgrow5 _; obtain ⟨g6, c6, rfl⟩ := ownsRow_succ hown5)
          have B5 := Lib.hid (B3.out.grown hgrow5 B3.out.size (fun k e => by have := (hownA.lt k e).1; omega))
          have K5 : Hid (Blk w5 w.heap.size 38 #[.slice A n cA, .slice (some ⟨g, off, none⟩) n cB]) := Lib.hid ((hgrow5.block _ K3.out.lt (fun e => by have := (hownA.lt _ e.symm).1; omega)).trans K3.out)
          have W5 : Hid (w5.ownsRow (w.heap.size + 1) 9 1 (.slice (some ⟨g6, 0, none⟩) (m + 1) c6) (m + 1) (((G (j + 1)).map F).map sv)) := Lib.hid (by rw [HT2.out, List.map_append, List.map_append]; exact hown5)
          clear hown5 hgrow5 hnews hownA hb3 k0 k1
          go_wp2_with fail
          exact ⟨⟨j + 1, p + 1, m + 1, c6, _, by have := HP.out; omega, by omega, by go_num, rfl, HM2, HNX2, W5, K5, B5⟩, by simp [intOf]; omega⟩
        · have HT2 := Lib.hid (HNj.out hh)
          have hh1 : ¬ (lev : Int) < (y : Int) := by omega
          have HM2 : Hid (m = (G (j + 1)).length) := Lib.hid (by rw [HT2.out, ← HM.out])
          have W5 : Hid (wr.ownsRow (w.heap.size + 1) 9 1 (.slice X m c) m (((G (j + 1)).map F).map sv)) := Lib.hid (by rw [HT2.out]; exact HO.out)
          clear HYj HNj HIj HNX hy hh hp
          go_wp2_with fail
          exact ⟨⟨j + 1, p + 1, m, c, X, by have := HP.out; omega, by omega, by go_num, rfl, HM2, HNX2, W5, HK, HB⟩, by simp [intOf]; omega⟩
    · obtain rfl : p = n := by omega
      have HE := Lib.hid (HIS.out j (by omega) HNO.out (.inl hp))
      clear hp
      go_wp2
      go_ret
      refine ⟨X, c, by rw [HE.out, ← HM.out]; rfl, ?_, HB.out⟩
      rw [HE.out, ← HM.out]
      exact yown_base HO.out (by omega)

theorem ybase_len (Z : List ItL) (q : Nat) : (ybase Z q).length = 32 := by
  unfold ybase
  split
  · exact hsum32 _
  · exact hsum32 _
theorem ylabb_len (Z : List ItL) (H : List Nat) (lev q : Nat) : (ylab (ybase Z) H lev q).length = 32 := by
  cases lev with
  | zero => exact ybase_len Z q
  | succ lev => exact hsum32 _

set_option maxRecDepth 100000 in
set_option maxHeartbeats 8000000 in
theorem yof_any (n cA cB : Nat) (A B : Option Addr) (Z : List ItL) (H : List Nat) (w0 : World) (hA : IR w0 A Z) (hB : VR vi w0 B H) (hz : Z.length = n) (hh : H.length = n) (hn : n ≤ 1024) (hx : ∀ x ∈ Z, x.1 < 18446744073709551616) (hs : ∀ x ∈ Z, x.2.length ≤ 4096) :
    ∀ (lev q : Nat) (w : World), lev ≤ 8 → q ≤ n → Below w0.heap.size w0 w → Calls Tryz.prog 37 #[ytv A B n cA cB, .int .i64 ((q : Int) - 1), .int .i64 (lev : Int)] w fun e w' => e = .returned (.string ⟨(ylab (ybase Z) (9 :: H) lev q).toArray⟩) ∧ Below w.heap.size w w' := by
  intro lev
  induction lev with
  | zero =>
    intro q w _ hq hb
    have hb0 := ba (Below.refl w.heap.size w) (.cells #[.slice A n cA, .slice B n cB] 38)
    have hk0 := Blk.new w 38 #[.slice A n cA, .slice B n cB]
    cases q with
    | zero =>
      have T1 := Lib.hid (fun W => hrsum_any rwords_holds [1] W (by simp))
      have e : ylab (ybase Z) (9 :: H) 0 0 = hsumL [1] := rfl
      rw [e]
      clear e
      have hcd : ∀ W : World, (convert 90 9 (.slice (some ⟨W.heap.size, 0, none⟩) 1 1)).run Tryz.prog (W.alloc (.cells #[.int .u8 1] 5)) = .ok (.string ⟨[1].toArray⟩) (W.alloc (.cells #[.int .u8 1] 5)) := fun W => yone_new 1 W
      generalize hsumL [1] = h at *
      have hcw := hcd (w.alloc (.cells #[.slice A n cA, .slice B n cB] 38))
      rw [World.size_alloc] at hcw
      have hb2 := ba hb0 (.cells #[.int .u8 1] 5)
      go_enter Tryz.func37, Tryz.ntmps37
      go_wp2_with fail
      refine (T1.out _).mono ?_
      rintro e w1 ⟨rfl, hb1⟩
      have hb3 := bt hb2 hb1
      go_wp2
      go_ret
      exact ⟨rfl, hb3⟩
    | succ q =>
      obtain ⟨g, off, rfl, c0, c1⟩ := (hA.later (bt hb hb0)) q (by omega)
      have hm := ik_mem (L := Z) (j := q) (by omega)
      have hx1 := hx _ hm
      have hs1 := hs _ hm
      have e : ylab (ybase Z) (9 :: H) 0 (q + 1) = yleaf (Z.getD q (0, [])) := rfl
      rw [e, show (((q + 1 : Nat) : Int) - 1) = (q : Int) by omega]
      clear e hm
      generalize Z.getD q (0, []) = x at *
      obtain ⟨xk, xs⟩ := x
      simp only at c0 c1 hx1 hs1
      have T1 := Lib.hid (fun W => yrleaf_any xk xs W hs1 hx1)
      generalize yleaf (xk, xs) = h at *
      have i0 : (0 : Int) ≤ (q : Int) := by omega
      have i1 : (q : Int) < (n : Int) := by omega
      have k0 := hk0.cell 0
      simp only [List.getElem?_toArray, List.getElem?_cons_zero] at k0
      clear hk0
      go_enter Tryz.func37, Tryz.ntmps37
      go_wp2_with fail
      refine (T1.out _).mono ?_
      rintro e w1 ⟨rfl, hb1⟩
      have hb3 := bt hb0 hb1
      go_wp2
      go_ret
      exact ⟨rfl, hb3⟩
  | succ lev ih =>
    intro q w hlev hq hb
    have hb0 := ba (Below.refl w.heap.size w) (.cells #[.slice A n cA, .slice B n cB] 38)
    have hk0 := Blk.new w 38 #[.slice A n cA, .slice B n cB]
    have k0 := hk0.cell 0
    have k1 := hk0.cell 1
    simp only [List.getElem?_toArray, List.getElem?_cons_zero, List.getElem?_cons_succ] at k0 k1
    have e1 : ((lev + 1 : Nat) : Int) = (lev : Int) + 1 := by omega
    have T1 := Lib.hid (fun W (hW : Below w.heap.size w W) => yfrom_any lev q n cA cB A B H (ylab (ybase Z) (9 :: H) lev) W (hB.later (bt hb hW)) hh hq hn (fun p V hp hV => ih p V (by omega) hp (bt (bt hb hW) hV)))
    have hlen := yfrom_len (9 :: H) lev q (by rw [List.length_cons]; omega)
    rw [List.length_cons, hh] at hlen
    have T2 := Lib.hid (fun A c W (hS : SR W A ((yfrom (9 :: H) lev q).map (ylab (ybase Z) (9 :: H) lev))) => yrtext_any (lev + 1) A (yfrom (9 :: H) lev q).length c _ W hlev hS (List.length_map _) (by omega) (by
      rw [ytake_flat _ (fun x hx => by
        rw [List.mem_map] at hx
        obtain ⟨p, _, rfl⟩ := hx
        exact ylabb_len Z (9 :: H) lev p), List.length_map]
      omega))
    have T3 := Lib.hid (fun W => hrsum_any rwords_holds (ytext (lev + 1) ((yfrom (9 :: H) lev q).map (ylab (ybase Z) (9 :: H) lev))) W (by
      rw [ytext_len, ytake_flat _ (fun x hx => by
        rw [List.mem_map] at hx
        obtain ⟨p, _, rfl⟩ := hx
        exact ylabb_len Z (9 :: H) lev p), List.length_map]
      omega))
    have e : ylab (ybase Z) (9 :: H) (lev + 1) q = hsumL (ytext (lev + 1) ((yfrom (9 :: H) lev q).map (ylab (ybase Z) (9 :: H) lev))) := rfl
    rw [e]
    rw [e1] at T2 ⊢
    clear e hk0 ih hx hs
    have HL : Hid (((yfrom (9 :: H) lev q).map (ylab (ybase Z) (9 :: H) lev)).length = (yfrom (9 :: H) lev q).length) := Lib.hid (List.length_map _)
    generalize (yfrom (9 :: H) lev q).length = m at *
    generalize (yfrom (9 :: H) lev q).map (ylab (ybase Z) (9 :: H) lev) = D at *
    generalize hsumL (ytext (lev + 1) D) = h at *
    generalize ytext (lev + 1) D = t at *
    have i1 : (0 : Int) < (lev : Int) + 1 := by omega
    have i2 : IntKind.i64.wrap ((lev : Int) + 1 - 1) = (lev : Int) := by rw [IntKind.wrap_i64]; omega
    go_enter Tryz.func37, Tryz.ntmps37
    go_wp2_with fail
    refine (T1.out _ hb0).mono ?_
    rintro e w1 ⟨X, c, rfl, hown, hb1⟩
    have HS := Lib.hid (own_SR' hown HL.out)
    clear hown
    go_wp2_with fail
    refine (T2.out _ c _ HS.out).mono ?_
    rintro e w2 ⟨rfl, hb2⟩
    go_wp2_with fail
    refine (T3.out _).mono ?_
    rintro e w3 ⟨rfl, hb3⟩
    have hb4 := bt hb0 (bt hb1 (bt hb2 hb3))
    go_wp2
    go_ret
    exact ⟨rfl, hb4⟩
end Go.Proofs.YtjonhenllhnibaaGreatDoor
/- slices.Backward over a row of ints: the pairs that it hands on. -/
namespace Go.Proofs.YtjonhenllhnibaaGreatDoor
open Go.RowKit Go.Shelf
attribute [local go_sem] Oper.semAt_some

/-- The last places of so many, the last one first. -/
def ydown (n : Nat) : Nat → List Nat
  | 0 => []
  | j + 1 => ydown n j ++ [n - 1 - j]
theorem ydown_len (n j : Nat) : (ydown n j).length = j := by
  induction j with
  | zero => rfl
  | succ j ih => simp [ydown, ih]
theorem ydown_pre (n j d : Nat) : ydown n j <+: ydown n (j + d) := by
  induction d with
  | zero => exact List.prefix_refl _
  | succ d ih => rw [← Nat.add_assoc, ydown]; exact ih.trans (List.prefix_append _ _)
theorem ydown_pre' (n j m : Nat) (h : j ≤ m) : ydown n j <+: ydown n m := by
  have := ydown_pre n j (m - j)
  rwa [Nat.add_sub_cancel' h] at this
theorem ydown_is (n m : Nat) (pre : List Nat) (h : pre <+: ydown n m) : pre.length ≤ m ∧ pre = ydown n pre.length := by
  have hl := h.length_le
  rw [ydown_len] at hl
  have h2 := ydown_pre' n pre.length m hl
  exact ⟨hl, List.IsPrefix.eq_of_length (List.prefix_of_prefix_length_le h h2 (by rw [ydown_len]; exact Nat.le_refl _)) (by rw [ydown_len])⟩
theorem ydown_at (n m : Nat) (pre : List Nat) (x : Nat) (h : (pre ++ [x]) <+: ydown n m) : pre.length < m ∧ x = n - 1 - pre.length := by
  obtain ⟨h1, h2⟩ := ydown_is n m _ h
  rw [List.length_append, List.length_singleton] at h1 h2
  rw [ydown] at h2
  obtain ⟨h3, h4⟩ := List.append_inj' h2 rfl
  exact ⟨by omega, by simpa using h4⟩
theorem VR.kp {q : Nat → Value} {w w' : World} {A : Option Addr} {L : List Nat} (h : VR q w A L) (hA : ∀ a, A = some a → w'.heap[a.block]? = w.heap[a.block]?) : VR q w' A L := fun j hj => by
  obtain ⟨g, off, e, h0⟩ := h j hj
  exact ⟨g, off, e, (World.cell?_of_block (a := ⟨g, off + j, none⟩) (show w'.heap[g]? = w.heap[g]? from hA _ e)).trans h0⟩

set_option maxRecDepth 100000 in
set_option maxHeartbeats 4000000 in
theorem yback_in (N : Nat) (hN : 1 ≤ N) (l Bl : Nat) (A : Option Addr) (n c : Nat) (P : List Nat) (S : Nat → Prop) (hn : n ≤ 65536) (hP : P.length = n) (hS1 : S Bl) (hS2 : ∀ a, A = some a → S a.block) (J Jx : List Nat → World → Prop)
    (W : World) (hAb : AbV J)
    (hY : ∀ pre x W1, J pre W1 → (pre ++ [x]) <+: ydown n n → YieldAt Fence.wide (N - 1) Tryz.prog l #[vi x, vi (P.getD x 0)] W1 fun e W' =>
      (e = .returned (.bool true) ∧ J (pre ++ [x]) W' ∧ KpS S W1 W') ∨ (e = .returned (.bool false) ∧ Jx (pre ++ [x]) W'))
    (hB : Blk W Bl 36 #[.slice A n c]) (hA : VR vi W A P) (h0 : J [] W) :
    CallsIn Fence.wide N Tryz.prog 126 #[.func (.yield l) #[] #[], .pointer (some ⟨Bl, 0, none⟩)] W fun e W' => (∃ v, e = .returned v) ∧
      (J (ydown n n) W' ∨ (∃ pre, pre <+: ydown n n ∧ Jx pre W')) := by
  have HBA := Lib.hid (And.intro hB hA)
  have c0 := hB.cell 0
  have HAb := Lib.hid hAb
  have HL := Lib.hid hP
  have HP : Hid (∀ j, j ≤ n → ydown n j <+: ydown n n) := Lib.hid fun j hj => ydown_pre' n j n hj
  have HZ : Hid (J (ydown n 0) W) := Lib.hid h0
  have HSS := Lib.hid (And.intro hS1 hS2)
  have i0 : IntKind.i64.wrap ((n : Int) - 1) = (n : Int) - 1 := by rw [IntKind.wrap_i64]; omega
  clear hB hA hAb hS1 hS2 h0 hP
  refine callsIn_of_wp Tryz.func126 rfl trivial ?_ rfl
  simp only [Tryz.ntmps126, List.size_toArray, List.length_cons, List.length_nil, Nat.reduceAdd, Nat.reduceSub, Array.replicate_succ, Array.replicate_zero, List.push_toArray, List.append_toArray, List.nil_append, List.cons_append]
  gi_wp2
  clear c0 i0
  gi_loopw [3] (fun i wr => ∃ (j : Nat) (z : Int), j ≤ n ∧ z + (j : Int) + 1 = (n : Int) ∧ i = .int .i64 z ∧ Hid (J (ydown n j) wr) ∧ Hid (Blk wr Bl 36 #[.slice A n c] ∧ VR vi wr A P))
    (fun i _ => (intOf i + 1).toNat)
  case atStart => exact ⟨0, (n : Int) - 1, Nat.zero_le _, by omega, rfl, HZ, HBA⟩
  case round =>
    clear HZ HBA
    obtain ⟨j, z, hj, hz, rfl, HJ, HB⟩ := hrel
    have c1 := HB.out.1.cell 0
    by_cases hz0 : 0 ≤ z
    · obtain ⟨t, rfl⟩ : ∃ t : Nat, z = (t : Int) := ⟨z.toNat, by omega⟩
      have ht : t < n := by omega
      obtain ⟨g, off, rfl, c2⟩ := HB.out.2 t (by rw [HL.out]; exact ht)
      have HT1 : Hid (ydown n (j + 1) = ydown n j ++ [t]) := Lib.hid (by rw [ydown, show n - 1 - j = t by omega])
      have HP1 := Lib.hid (HP.out (j + 1) (by omega))
      have HP2 : Hid (ydown n j ++ [t] <+: ydown n n) := Lib.hid (HT1.out ▸ HP1.out)
      obtain ⟨fn, tmps, assign, body, hy, hR⟩ := hY (ydown n j) t wr HJ.out HP2.out
      have HR := Lib.hid hR
      clear hR HP1
      generalize P.getD t 0 = x at *
      have i1 : (t : Int) < (n : Int) := by omega
      have i2 : IntKind.i64.wrap ((t : Int) - 1) = (t : Int) - 1 := by rw [IntKind.wrap_i64]; omega
      gi_wp2
      refine HR.out.mono ?_
      rintro e2 W3 (⟨rfl, hJ3, hk3⟩ | ⟨rfl, hJx3⟩)
      · have HF : Hid (J (ydown n (j + 1)) W3) := Lib.hid (by rw [HT1.out]; exact hJ3)
        have HB3 : Hid (Blk W3 Bl 36 #[.slice (some ⟨g, off, none⟩) n c] ∧ VR vi W3 (some ⟨g, off, none⟩) P) := Lib.hid ⟨hk3.blk HSS.out.1 HB.out.1, HB.out.2.kp fun a e => hk3.2 _ (HSS.out.2 a e)⟩
        clear hJ3 hk3 c1 c2
        gi_wp2
        go_roundw
        case rel => exact ⟨j + 1, (t : Int) - 1, by omega, by omega, by simp, HF, HB3⟩
        case measure => simp [intOf]
      · gi_wp2
        refine bodyPost_ret (results_none rfl _ _ _) rfl ?_
        exact ⟨⟨_, rfl⟩, .inr ⟨_, HP2.out, hJx3⟩⟩
    · obtain rfl : j = n := by omega
      gi_wp2
      go_end0
      exact ⟨⟨_, rfl⟩, .inl HJ.out⟩

theorem yback_hands (N : Nat) (hN : 1 ≤ N) (Bl : Nat) (A : Option Addr) (n c : Nat) (P : List Nat) (S : Nat → Prop) (w : World) (hn : n ≤ 65536) (hP : P.length = n) (hS1 : S Bl) (hS2 : ∀ a, A = some a → S a.block)
    (hB : Blk w Bl 36 #[.slice A n c]) (hA : VR vi w A P) :
    HandsY vi (fun x => vi (P.getD x 0)) N 126 #[.pointer (some ⟨Bl, 0, none⟩)] S (ydown n n) w := fun l J Jx W hW hAb hY h0 =>
  yback_in N hN l Bl A n c P S hn hP hS1 hS2 J Jx W hAb hY (hB.below hW) (hA.later hW) h0

set_option maxRecDepth 100000 in
set_option maxHeartbeats 1000000 in
theorem ybackward_any (A : Option Addr) (n c : Nat) (w : World) :
    Calls Tryz.prog 105 #[.slice A n c] w fun e w' => e = .returned (.func (.func 126) #[] #[.pointer (some ⟨w.heap.size, 0, none⟩)]) ∧ w' = w.alloc (.cells #[.slice A n c] 36) := by
  go_enter Tryz.func105, Tryz.ntmps105
  go_wp2
  go_ret
  exact ⟨rfl, rfl⟩
end Go.Proofs.YtjonhenllhnibaaGreatDoor
/- The pieces that cut makes: what lies in their row. Nothing of any function. -/
namespace Go.Proofs.YtjonhenllhnibaaGreatDoor
open Go.RowKit

theorem VR.drop {q : Nat → Value} {w : World} {g off : Nat} {L : List Nat} (h : VR q w (some ⟨g, off, none⟩) L) (m : Nat) : VR q w (some ⟨g, off + m, none⟩) (L.drop m) := fun j hj => by
  rw [List.length_drop] at hj
  obtain ⟨g', off', e, h0⟩ := h (m + j) (by omega)
  obtain ⟨rfl, rfl⟩ : g = g' ∧ off = off' := by injection e with e; injection e with e1 e2; exact ⟨e1, e2⟩
  exact ⟨g, off + m, rfl, by rw [getD_drop, Nat.add_assoc]; exact h0⟩
/-- The piece of a place; what lies behind so many rounds. -/
def ypc (g off c : Nat) (P : List Nat) (n i : Nat) : Value := .slice (some ⟨g, off + P.getD i 0, none⟩) (yend P n i - P.getD i 0) (c - P.getD i 0)
def ypcs (g off c : Nat) (P : List Nat) (n m k : Nat) : List Value := (List.range m).map fun i => if m - k ≤ i then ypc g off c P n i else .slice none 0 0
theorem ypcs_len (g off c : Nat) (P : List Nat) (n m k : Nat) : (ypcs g off c P n m k).length = m := by simp [ypcs]
theorem ypcs_zero (g off c : Nat) (P : List Nat) (n m : Nat) : ypcs g off c P n m 0 = List.replicate m (.slice none 0 0) := by
  apply List.ext_getElem
  · simp [ypcs]
  · intro i h1 h2
    have : i < m := by simpa [ypcs] using h1
    simp [ypcs]
    omega
theorem ypcs_set (g off c : Nat) (P : List Nat) (n m k : Nat) (h : k < m) : (ypcs g off c P n m k).set (m - 1 - k) (ypc g off c P n (m - 1 - k)) = ypcs g off c P n m (k + 1) := by
  apply List.ext_getElem
  · simp [ypcs]
  · intro i h1 h2
    have hi : i < m := by simpa [ypcs] using h2
    rw [List.getElem_set]
    by_cases e : m - 1 - k = i
    · subst e
      rw [if_pos rfl]
      simp only [ypcs, List.getElem_map, List.getElem_range]
      rw [if_pos (by omega)]
    · rw [if_neg e]
      simp only [ypcs, List.getElem_map, List.getElem_range]
      by_cases h3 : m - k ≤ i
      · rw [if_pos h3, if_pos (by omega)]
      · rw [if_neg h3, if_neg (by omega)]
theorem ypcs_at (g off c : Nat) (P : List Nat) (n m i : Nat) (h : i < m) : (ypcs g off c P n m m)[i]? = some (ypc g off c P n i) := by
  simp [ypcs, h]
/-- Where the next piece ends, behind so many rounds. -/
def yen (P : List Nat) (n k : Nat) : Nat := if k = 0 then n else P.getD (P.length - k) 0
theorem yen_now (P : List Nat) (n k : Nat) (h : k < P.length) : yen P n k = yend P n (P.length - 1 - k) := by
  unfold yen yend
  by_cases e : k = 0
  · subst e
    rw [if_pos rfl, if_neg (by omega)]
  · rw [if_neg e, if_pos (by omega)]
    congr 1
    omega
theorem yen_next (P : List Nat) (n k : Nat) (h : k < P.length) : yen P n (k + 1) = P.getD (P.length - 1 - k) 0 := by
  unfold yen
  rw [if_neg (by omega)]
  congr 1
  omega
theorem yblk_set {W : World} {g : Nat} {t : TypeId} {xs : List Value} (h : Blk W g t xs.toArray) (i : Nat) (v : Value) : Blk (W.setCell ⟨g, i, none⟩ v) g t (xs.set i v).toArray := by
  have := h.set_ i v
  rwa [show xs.toArray.setIfInBounds i v = (xs.set i v).toArray by simp] at this
end Go.Proofs.YtjonhenllhnibaaGreatDoor
/- A region that draws its order, in a round: where none of its operations calls or defers, it is walked as outside of one. Nothing of any function. -/
namespace Go.Proofs.YtjonhenllhnibaaGreatDoor
open Go.RowKit Go.Shelf

/-- The operations that give a value or none, and nothing else. -/
def plainB : Op → Bool
  | .move _ => true
  | .assign _ => true
  | .alloc _ => true
  | .box _ _ => true
  | .build _ _ => true
  | .buildSlice _ _ _ => true
  | .load _ _ => true
  | .store _ _ _ => true
  | .binOp _ _ _ _ _ => true
  | .unOp _ _ _ => true
  | .convert _ _ _ => true
  | .makeSlice _ _ _ => true
  | .slice _ _ _ _ _ => true
  | .fieldAddr _ _ _ => true
  | .indexAddr _ _ _ => true
  | .extract _ _ => true
  | _ => false
def PlainR : Result Next → Prop
  | .ok (.value _) _ => True
  | .ok .skip _ => True
  | .halt _ _ => True
  | _ => False
theorem plain_value (P : Program) (m : Sem Value) (w : World) : PlainR ((do pure (Next.value (← m)) : Sem Next).run P w) := by
  rw [Sem.run_bind]
  cases m.run P w <;> simp [Result.andThen, Sem.run_pure, PlainR]
theorem plain_skip (P : Program) (m : Sem Unit) (w : World) : PlainR ((do m; pure Next.skip : Sem Next).run P w) := by
  rw [Sem.run_bind]
  cases m.run P w <;> simp [Result.andThen, Sem.run_pure, PlainR]
theorem plain_op {o : Oper} (h : plainB o.op = true) (P : Program) (ρ : Operand → Value) (w : World) : PlainR ((execOp ρ o).run P w) := by
  obtain ⟨dst, op, ty, pos, after, guard⟩ := o
  simp only at h
  cases op <;> first
    | (cases h; done)
    | exact plain_value P _ w
    | exact plain_skip P _ w
    | exact trivial
theorem plain_defer {o : Oper} (h : plainB o.op = true) : ∀ c, o.op ≠ .defer c := fun c e => by rw [e] at h; cases h
theorem wpOpIn_round {F : Fence} {n : Nat} {P : Program} {ops : Array Oper} {Q : Exit → Act → World → Prop} {i : Nat} {K : Act → World → Prop} {a : Act} {w : World} (l : Nat) (hp : ∀ (j : Nat) o, ops[j]? = some o → plainB o.op = true)
    (h : wpOpIn F n P ops Q i K a w) : wpOpIn (F.inRound l) n P ops Q i K a w := by
  unfold wpOpIn at h ⊢
  cases hi : ops[i]? with
  | none => rw [hi] at h; exact h
  | some o =>
    rw [hi] at h
    simp only at h ⊢
    have hpo := hp i o hi
    split
    · rename_i hw
      rw [if_pos hw] at h
      unfold Oper.wpIn at h ⊢
      refine ⟨h.1, ?_⟩
      have h2 := h.2
      rw [Oper.semAt_plain F _ _ (plain_defer hpo)] at h2
      rw [Oper.semAt_plain (F.inRound l) _ _ (plain_defer hpo)]
      have hr := plain_op hpo P a.eval w
      generalize (execOp a.eval o).run P w = r at h2 hr ⊢
      cases r with
      | ok x w' => cases x <;> first | exact h2 | exact hr.elim
      | halt x w' => exact h2
    · rename_i hw
      rw [if_neg hw] at h
      exact h
theorem wpAnyIn_round {F : Fence} {n : Nat} {P : Program} {md : Region.Mode} {ops : Array Oper} {Q : Exit → Act → World → Prop} (l : Nat) (hp : ∀ (j : Nat) o, ops[j]? = some o → plainB o.op = true) :
    ∀ (fuel : Nat) (listed : Array Bool) (a : Act) (w : World), wpAnyIn F n P md ops Q fuel listed a w → wpAnyIn (F.inRound l) n P md ops Q fuel listed a w := by
  intro fuel
  induction fuel with
  | zero => intro listed a w h; exact h
  | succ fuel ih =>
    intro listed a w h
    exact ⟨h.1, fun i hi => wpOpIn_mono (fun a' w' h2 => ih _ _ _ h2) (wpOpIn_round l hp (h.2 i hi))⟩
theorem plain_all {ops : Array Oper} (h : (ops.toList.all fun o => plainB o.op) = true) : ∀ (j : Nat) o, ops[j]? = some o → plainB o.op = true := fun j o hj => by
  have := List.all_eq_true.1 h o (by
    rw [← Array.getElem?_toList] at hj
    exact List.mem_of_getElem? hj)
  exact this
end Go.Proofs.YtjonhenllhnibaaGreatDoor
