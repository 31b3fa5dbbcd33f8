/- Texts of this seat, one behind the other: VRefs, VHands, VCollect, VAbove. -/
import Derived.Test.YtcakhepiceilkaaDoorQ01
import Derived.Test.YtcakhepiceilkaaDoorQ02
import Derived.Test.YtcakhepiceilkaaDoorQ09
/- The contracts of the reference's Heights and Above: rows that grow. -/
namespace Go.Proofs.YtcakhepiceilkaaDoor
open Go.RowKit

/-- The places, rising, of the first so many numbers whose height is more than a level. -/
def abL (k : List UInt8) (L : List Nat) (lev : Int) (j : Nat) : List Nat := (List.range j).filter fun i => decide (lev < (hL k (L.getD i 0) : Int))
theorem abL_zero (k : List UInt8) (L : List Nat) (lev : Int) : abL k L lev 0 = [] := rfl
theorem abL_yes {k : List UInt8} {L : List Nat} {lev : Int} {j : Nat} (h : lev < (hL k (L.getD j 0) : Int)) : abL k L lev (j + 1) = abL k L lev j ++ [j] := by
  simp only [abL, List.range_succ, List.filter_append, List.filter_cons, List.filter_nil]
  rw [if_pos (by simpa using h)]
theorem abL_no {k : List UInt8} {L : List Nat} {lev : Int} {j : Nat} (h : ¬ lev < (hL k (L.getD j 0) : Int)) : abL k L lev (j + 1) = abL k L lev j := by
  simp only [abL, List.range_succ, List.filter_append, List.filter_cons, List.filter_nil]
  rw [if_neg (by simpa using h), List.append_nil]
theorem abL_len (k : List UInt8) (L : List Nat) (lev : Int) (j : Nat) : (abL k L lev j).length ≤ j := by
  have := List.length_filter_le (fun i => decide (lev < (hL k (L.getD i 0) : Int))) (List.range j)
  rwa [List.length_range] at this

set_option maxRecDepth 100000 in
set_option maxHeartbeats 4000000 in
theorem vrheights_any (k : List UInt8) (A : Option Addr) (n c : Nat) (L : List Nat) (w : World) (hk : k.length ≤ 60000) (hA : VR vu w A L) (hl : L.length = n) (hx : ∀ x ∈ L, x < 18446744073709551616) (hn : n ≤ 65536) :
    Calls Tryd.prog 11 #[.string ⟨k.toArray⟩, .slice A n c] w fun e w' => ∃ g c', e = .returned (.slice (some ⟨g, 0, none⟩) n c') ∧ w'.ownsRow w.heap.size 3 1 (.slice (some ⟨g, 0, none⟩) n c') n ((hsL k L).map vi) ∧ Below w.heap.size w w' := by
  obtain ⟨ti, hti, hz0, hz1, hz2⟩ := info_parts infoVI
  have HH := Lib.hid (fun j W (hj : j < n) => by
    have := vrheight_any k (L.getD j 0) W hk (hx _ (by rw [List.getD, List.getElem?_eq_getElem (by omega)]; exact List.getElem_mem _))
    rwa [← hsL_at k L j (by omega)] at this)
  have HR := Lib.hid (fun j W (hj : j < n) (hb : Below w.heap.size w W) => (hA.later hb) j (by omega))
  have HTl : Hid ((hsL k L).length = n) := Lib.hid (by rw [hsL_len, hl])
  clear hA hx hl hk
  generalize hsL k L = T at *
  have HTS : Hid (∀ j, j < n → (T.take (j + 1)).map vi = (T.take j).map vi ++ [vi (T.getD j 0)]) := Lib.hid (fun j hj => by
    rw [List.take_add_one, List.map_append]
    have : j < T.length := by rw [HTl.out]; exact hj
    simp [List.getD, this])
  have HO : Hid ((w.alloc (.cells #[] 3)).ownsRow w.heap.size 3 1 (.slice (some ⟨w.heap.size, 0, none⟩) 0 0) 0 ((T.take 0).map vi)) := Lib.hid (own_nil (Blk.new w _ _) (Nat.le_refl _))
  have HB : Hid (Below w.heap.size w (w.alloc (.cells #[] 3))) := Lib.hid (ba (Below.refl _ _) _)
  go_enter Tryd.func11, Tryd.ntmps11
  go_upto_region 2 with fail
  generalize w.alloc (.cells #[] 3) = w1 at *
  go_wp2_with fail
  go_loopw [5, 11] (fun ov iv wr => ∃ (j g5 c5 : Nat), j ≤ n ∧ iv = .int .i64 (j : Int) ∧ ov = .slice (some ⟨g5, 0, none⟩) j c5 ∧ Hid (wr.ownsRow w.heap.size 3 1 (.slice (some ⟨g5, 0, none⟩) j c5) j ((T.take j).map vi)) ∧ Hid (Below w.heap.size w wr)) (fun _ i _ => n - (intOf i).toNat)
  case atStart => exact ⟨0, w.heap.size, 0, Nat.zero_le _, rfl, rfl, HO, HB⟩
  case round =>
    clear HB HO
    obtain ⟨j, g5, c5, hj, rfl, rfl, HO, HB⟩ := hrel
    by_cases hlt : j < n
    · obtain ⟨g, off, rfl, c0⟩ := HR.out j wr hlt HB.out
      have HHj := Lib.hid (fun W => HH.out j W hlt)
      have HTj := Lib.hid (HTS.out j hlt)
      generalize T.getD j 0 = x at HHj HTj
      generalize L.getD j 0 = y at c0 HHj
      have i0 : (0 : Int) ≤ (j : Int) := by omega
      have i1 : (j : Int) < (n : Int) := by omega
      go_wp2_with fail
      refine (HHj.out _).mono ?_
      rintro e2 w2 ⟨rfl, hb2⟩
      have W2 := Lib.hid (own_later HO.out hb2)
      have B2 := Lib.hid (bt HB.out hb2)
      clear hb2 HO HB
      have hownA := W2.out.alloc (.cells #[vi x] 3)
      have hnews := World.news_of_block (heap_alloc_new w2 (.cells #[vi x] 3))
      have B3 := Lib.hid (ba B2.out (.cells #[vi x] 3))
      go_wp2_with (at_builtin; refine wpList_append_own _ rfl _ _ 27 rfl w.heap.size 3 ti _ 1 8 Tryd.underlying27 hti hz0 hz1 hz2 rfl (by decide) _ _ _ rfl hownA ⟨w2.heap.size, 0, none⟩ 1 1 [vi x] rfl rfl hnews (by simp [Value.oneCell']) (by unfold maxLen; omega) (by omega) (by have := B3.out.size; exact this) ?_; intro v4 w5 hown5 hgrow5 _; obtain ⟨g6, c6, rfl⟩ := ownsRow_succ hown5)
      have B5 := Lib.hid (B3.out.grown hgrow5 B3.out.size (fun k e => by have := (hownA.lt k e).1; omega))
      rw [← HTj.out] at hown5
      have W5 := Lib.hid hown5
      clear hown5 hgrow5 hnews hownA
      go_wp2_with fail
      exact ⟨⟨j + 1, g6, c6, by omega, by go_num, rfl, W5, B5⟩, by simp [intOf]; omega⟩
    · obtain rfl : j = n := by omega
      have HTA : Hid (T.take j = T) := Lib.hid (by rw [← HTl.out, List.take_length])
      rw [HTA.out] at HO
      go_wp2
      go_ret
      exact ⟨_, _, rfl, HO.out, HB.out⟩

set_option maxRecDepth 100000 in
set_option maxHeartbeats 4000000 in
theorem vrabove_any (k : List UInt8) (A : Option Addr) (n c : Nat) (L : List Nat) (lev : Int) (w : World) (hk : k.length ≤ 60000) (hA : VR vu w A L) (hl : L.length = n) (hx : ∀ x ∈ L, x < 18446744073709551616) (hn : n ≤ 65536) :
    Calls Tryd.prog 13 #[.string ⟨k.toArray⟩, .slice A n c, .int .i64 lev] w fun e w' => ∃ g c' m, m = (abL k L lev n).length ∧ e = .returned (.slice (some ⟨g, 0, none⟩) m c') ∧ w'.ownsRow w.heap.size 3 1 (.slice (some ⟨g, 0, none⟩) m c') m ((abL k L lev n).map vi) ∧ Below w.heap.size w w' := by
  obtain ⟨ti, hti, hz0, hz1, hz2⟩ := info_parts infoVI
  have HH := Lib.hid (fun j W (hj : j < n) => vrheight_any k (L.getD j 0) W hk (hx _ (by rw [List.getD, List.getElem?_eq_getElem (by omega)]; exact List.getElem_mem _)))
  have HR := Lib.hid (fun j W (hj : j < n) (hb : Below w.heap.size w W) => (hA.later hb) j (by omega))
  have HY := Lib.hid (fun j (h : lev < (hL k (L.getD j 0) : Int)) => abL_yes h)
  have HN := Lib.hid (fun j (h : ¬ lev < (hL k (L.getD j 0) : Int)) => abL_no h)
  have HC := Lib.hid (abL_len k L lev)
  have HZ := Lib.hid (abL_zero k L lev)
  clear hA hx hl hk
  generalize abL k L lev = T at *
  have HO : Hid ((w.alloc (.cells #[] 3)).ownsRow w.heap.size 3 1 (.slice (some ⟨w.heap.size, 0, none⟩) 0 0) 0 ((T 0).map vi)) := Lib.hid (by rw [HZ.out]; exact own_nil (Blk.new w _ _) (Nat.le_refl _))
  have HB : Hid (Below w.heap.size w (w.alloc (.cells #[] 3))) := Lib.hid (ba (Below.refl _ _) _)
  go_enter Tryd.func13, Tryd.ntmps13
  go_upto_region 2 with fail
  generalize w.alloc (.cells #[] 3) = w1 at *
  go_wp2_with fail
  go_loopw [7, 13] (fun ov iv wr => ∃ (j m g5 c5 : Nat), j ≤ n ∧ iv = .int .i64 (j : Int) ∧ ov = .slice (some ⟨g5, 0, none⟩) m c5 ∧ Hid (m = (T j).length ∧ m ≤ j) ∧ Hid (wr.ownsRow w.heap.size 3 1 (.slice (some ⟨g5, 0, none⟩) m c5) m ((T j).map vi)) ∧ Hid (Below w.heap.size w wr)) (fun _ i _ => n - (intOf i).toNat)
  case atStart => exact ⟨0, 0, w.heap.size, 0, Nat.zero_le _, rfl, rfl, Lib.hid ⟨by rw [HZ.out]; rfl, Nat.le_refl _⟩, HO, HB⟩
  case round =>
    clear HB HO
    obtain ⟨j, m, g5, c5, hj, rfl, rfl, HM, HO, HB⟩ := hrel
    by_cases hlt : j < n
    · obtain ⟨g, off, rfl, c0⟩ := HR.out j wr hlt HB.out
      have HHj := Lib.hid (fun W => HH.out j W hlt)
      have HYj := Lib.hid (HY.out j)
      have HNj := Lib.hid (HN.out j)
      generalize L.getD j 0 = y at c0 HHj HYj HNj
      have i0 : (0 : Int) ≤ (j : Int) := by omega
      have i1 : (j : Int) < (n : Int) := by omega
      have hm : m ≤ 65536 := by have := HM.out.2; omega
      go_wp2_with fail
      refine (HHj.out _).mono ?_
      rintro e2 w2 ⟨rfl, hb2⟩
      have W2 := Lib.hid (own_later HO.out hb2)
      have B2 := Lib.hid (bt HB.out hb2)
      clear hb2 HO HB HHj
      by_cases hh : lev < (hL k y : Int)
      · have HT2 := Lib.hid (HYj.out hh)
        clear HYj HNj
        generalize hL k y = hv at *
        have hownA := W2.out.alloc (.cells #[vi j] 3)
        have hnews := World.news_of_block (heap_alloc_new w2 (.cells #[vi j] 3))
        have B3 := Lib.hid (ba B2.out (.cells #[vi j] 3))
        go_wp2_with (at_builtin; refine wpList_append_own _ rfl _ _ 27 rfl w.heap.size 3 ti _ 1 8 Tryd.underlying27 hti hz0 hz1 hz2 rfl (by decide) _ _ _ rfl hownA ⟨w2.heap.size, 0, none⟩ 1 1 [vi j] rfl rfl hnews (by simp [Value.oneCell']) (by unfold maxLen; omega) (by omega) (by have := B3.out.size; exact this) ?_; intro v4 w5 hown5 hgrow5 _; obtain ⟨g6, c6, rfl⟩ := ownsRow_succ hown5)
        have B5 := Lib.hid (B3.out.grown hgrow5 B3.out.size (fun k e => by have := (hownA.lt k e).1; omega))
        have W5 : Hid (w5.ownsRow w.heap.size 3 1 (.slice (some ⟨g6, 0, none⟩) (m + 1) c6) (m + 1) ((T (j + 1)).map vi)) := Lib.hid (by rw [HT2.out, List.map_append]; exact hown5)
        have HM2 : Hid (m + 1 = (T (j + 1)).length ∧ m + 1 ≤ j + 1) := Lib.hid (by have := HM.out; rw [HT2.out, List.length_append]; simp; omega)
        clear hown5 hgrow5 hnews hownA
        go_wp2_with fail
        exact ⟨⟨j + 1, m + 1, g6, c6, by omega, by go_num, rfl, HM2, W5, B5⟩, by simp [intOf]; omega⟩
      · have HT2 := Lib.hid (HNj.out (by omega))
        clear HYj HNj
        generalize hL k y = hv at *
        rw [← HT2.out] at W2
        have HM2 : Hid (m = (T (j + 1)).length ∧ m ≤ j + 1) := Lib.hid (by have := HM.out; rw [HT2.out]; omega)
        go_wp2_with fail
        exact ⟨⟨j + 1, m, g5, c5, by omega, by go_num, rfl, HM2, W2, B2⟩, by simp [intOf]; omega⟩
    · obtain rfl : j = n := by omega
      go_wp2
      go_ret
      exact ⟨_, _, m, HM.out.1, rfl, HO.out, HB.out⟩
end Go.Proofs.YtcakhepiceilkaaDoor
/- The iterator higher: the places that it hands on. -/
namespace Go.Proofs.YtcakhepiceilkaaDoor
open Go.RowKit Go.Shelf
attribute [local go_sem] Oper.semAt_some

theorem abL_step (k : List UInt8) (L : List Nat) (lev : Int) (j : Nat) : abL k L lev j <+: abL k L lev (j + 1) := by
  by_cases h : lev < (hL k (L.getD j 0) : Int)
  · rw [abL_yes h]; exact List.prefix_append _ _
  · rw [abL_no h]; exact List.prefix_refl _
theorem abL_pre (k : List UInt8) (L : List Nat) (lev : Int) (j d : Nat) : abL k L lev j <+: abL k L lev (j + d) := by
  induction d with
  | zero => exact List.prefix_refl _
  | succ d ih => exact ih.trans (abL_step _ _ _ _)
theorem abL_pre' (k : List UInt8) (L : List Nat) (lev : Int) (j m : Nat) (h : j ≤ m) : abL k L lev j <+: abL k L lev m := by
  have := abL_pre k L lev j (m - j)
  rwa [Nat.add_sub_cancel' h] at this

theorem vtwo {e : Ending} {P Q : Prop} (h : (e = .returned (.bool true) ∧ P) ∨ (e = .returned (.bool false) ∧ Q)) : ∃ b : Bool, e = .returned (.bool b) ∧ Hid ((b = true → P) ∧ (b = false → Q)) := by
  rcases h with ⟨rfl, h⟩ | ⟨rfl, h⟩
  · exact ⟨true, rfl, Lib.hid ⟨fun _ => h, fun e => by cases e⟩⟩
  · exact ⟨false, rfl, Lib.hid ⟨fun e => (by cases e), fun _ => h⟩⟩

set_option maxRecDepth 100000 in
set_option maxHeartbeats 4000000 in
theorem vhigher_in (N : Nat) (hN : 1 ≤ N) (l Bl Bk Bv : Nat) (k : List UInt8) (A : Option Addr) (n c : Nat) (L : List Nat) (lev : Int) (w0 : World) (hk : k.length ≤ 60000) (hA : VR vu w0 A L) (hl : L.length = n) (hx : ∀ x ∈ L, x < 18446744073709551616) (hn : n ≤ 65536) (hT : VTab w0)
    (b1 : Blk w0 Bl 23 #[.slice A n c]) (b2 : Blk w0 Bk 9 #[.string ⟨k.toArray⟩]) (b3 : Blk w0 Bv 3 #[.int .i64 lev]) (J Jx : List Nat → World → Prop)
    (W : World) (hW : Below w0.heap.size w0 W) (hAb : AbV J)
    (hY : ∀ pre x W1, J pre W1 → (pre ++ [x]) <+: abL k L lev n → YieldAt Fence.wide (N - 1) Tryd.prog l #[vi x] W1 fun e W' =>
      (e = .returned (.bool true) ∧ J (pre ++ [x]) W' ∧ KpV w0.heap.size W1 W') ∨ (e = .returned (.bool false) ∧ Jx (pre ++ [x]) W')) (h0 : J [] W) :
    CallsIn Fence.wide N Tryd.prog 31 #[.func (.yield l) #[] #[], .pointer (some ⟨Bl, 0, none⟩), .pointer (some ⟨Bk, 0, none⟩), .pointer (some ⟨Bv, 0, none⟩)] W fun e W' => (∃ v, e = .returned v) ∧
      (J (abL k L lev n) W' ∨ (∃ pre, pre <+: abL k L lev n ∧ Jx pre W')) := by
  have hmx : Tryd.prog.follows .mixedOrders = true := by kernel_rfl
  have HH := Lib.hid (fun j W (hj : j < n) (hb : Below w0.heap.size w0 W) => vheight_any k (L.getD j 0) W hk (hx _ (by rw [List.getD, List.getElem?_eq_getElem (by omega)]; exact List.getElem_mem _)) (hT.later hb))
  have HR := Lib.hid (fun j W (hj : j < n) (hb : Below w0.heap.size w0 W) => (hA.later hb) j (by omega))
  have HC := Lib.hid (fun W (hb : Below w0.heap.size w0 W) => And.intro ((b2.below hb).cell 0) ((b3.below hb).cell 0))
  have c0 := (b1.below hW).cell 0
  have HYS := Lib.hid (fun j (h : lev < (hL k (L.getD j 0) : Int)) => abL_yes h)
  have HNO := Lib.hid (fun j (h : ¬ lev < (hL k (L.getD j 0) : Int)) => abL_no h)
  have HP := Lib.hid (fun j (h : j ≤ n) => abL_pre' k L lev j n h)
  have HZ := Lib.hid (abL_zero k L lev)
  have HAb := Lib.hid hAb
  have HY := Lib.hid hY
  have HS : Hid (J (abL k L lev 0) W ∧ Below w0.heap.size w0 W) := Lib.hid ⟨h0, hW⟩
  clear hk hA hl hx hT b1 b2 b3 hW hAb hY h0
  generalize abL k L lev = T at *
  refine callsIn_of_wp Tryd.func31 rfl trivial ?_ rfl
  simp only [Tryd.ntmps31, List.size_toArray, List.length_cons, List.length_nil, Nat.reduceAdd, Nat.reduceSub, Array.replicate_succ, Array.replicate_zero, List.push_toArray, List.append_toArray, List.nil_append, List.cons_append]
  gi_wp2
  clear c0
  gi_loopw [9] (fun i wr => ∃ j : Nat, Hid (j ≤ n) ∧ i = .int .i64 (j : Int) ∧ Hid (J (T j) wr ∧ Below w0.heap.size w0 wr)) (fun i _ => n - (intOf i).toNat)
  case atStart => exact ⟨0, Lib.hid (Nat.zero_le _), rfl, HS⟩
  case round =>
    clear HS
    obtain ⟨j, HI, rfl, HB⟩ := hrel
    by_cases hlt : j < n
    · obtain ⟨g, off, rfl, d0⟩ := HR.out j wr hlt HB.out.2
      have hd : Below wr.heap.size wr wr.drew := (Below.refl _ _).drew
      have HHj := Lib.hid (fun W (hb : Below wr.heap.size wr W) => HH.out j W hlt (bt HB.out.2 hb))
      have HYj := Lib.hid (HYS.out j)
      have HNj := Lib.hid (HNO.out j)
      have HPj := Lib.hid (HP.out (j + 1) hlt)
      have HJ1 := Lib.hid (fun wa (hba : Below wr.heap.size wr wa) => HAb.out _ _ _ HB.out.1 hba)
      have HB1 := Lib.hid (fun wa (hba : Below wr.heap.size wr wa) => bt HB.out.2 hba)
      obtain ⟨c1, c2⟩ := HC.out wr.drew HB.out.2.drew
      have HC1 := Lib.hid (fun wa (hba : Below wr.heap.size wr wa) => HC.out wa (bt HB.out.2 hba))
      generalize L.getD j 0 = y at d0 HHj HYj HNj
      have i0 : (0 : Int) ≤ (j : Int) := by omega
      have i1 : (j : Int) < (n : Int) := by omega
      by_cases hh : lev < (hL k y : Int)
      · have HT1 := Lib.hid (HYj.out hh)
        have HP2 : Hid (T j ++ [j] <+: T n) := Lib.hid (HT1.out ▸ HPj.out)
        have HYY := Lib.hid (fun wa (hba : Below wr.heap.size wr wa) => HY.out (T j) j wa (HJ1.out wa hba) HP2.out)
        have HNX : Hid (j + 1 ≤ n ∧ n - (j + 1) < n - j) := Lib.hid (by omega)
        generalize hL k y = hv at *
        clear HYj HNj HPj
        gi_wp2_with fail
        gi_region_with_o (first | (refine HR5.out.mono ?_; rintro e W5 hor; obtain ⟨bb, rfl, HBB⟩ := vtwo hor; clear hor) | (refine ⟨trivial, ?_⟩; (with_reducible refine (callsIn_wide.2 (HHj.out _ hd)).mono ?_); rintro e w1 ⟨rfl, hb1⟩; obtain ⟨fn, tmps, assign, body, hy, hR⟩ := HYY.out w1 (bt hd hb1); have HR5 := Lib.hid hR; clear hR; obtain ⟨c3, c4⟩ := HC1.out w1 (bt hd hb1)))
        all_goals clear hy d0 c1 c2 c3 c4
        all_goals cases bb
        any_goals (have hbt := HBB.out.1 rfl; simp only [Exit.then]; go_at_K; gi_wp2; exact ⟨⟨j + 1, Lib.hid HNX.out.1, by simp, Lib.hid ⟨by rw [HT1.out]; exact hbt.1, (HB1.out w1 (bt hd hb1)).trans hbt.2⟩⟩, by have := HNX.out.2; simp [intOf]; omega⟩)
        all_goals (have hbf := HBB.out.2 rfl; simp only [Exit.then]; go_at_K; gi_wp2; refine bodyPost_ret (results_none rfl _ _ _) rfl ?_; exact ⟨⟨_, rfl⟩, .inr ⟨_, HP2.out, hbf⟩⟩)
      · have HT1 := Lib.hid (HNj.out (by omega))
        have HNX : Hid (j + 1 ≤ n ∧ n - (j + 1) < n - j) := Lib.hid (by omega)
        have hh2 : (hL k y : Int) ≤ lev := by omega
        generalize hL k y = hv at *
        clear HYj HNj HPj hh
        gi_wp2_with fail
        refine wpIn_region_any (by assumption) ?_
        change wpAnyIn _ _ _ _ _ _ _ _ _ (World.drew _)
        refine wpAnyIn_take (i := 1) (oi := ⟨some 15, _, _, _, _, _⟩) (v := vu y) rfl rfl (by kernel_rfl) (by kernel_rfl) (by kernel_rfl) (fun _ _ _ h => h) ⟨Or.inl ⟨by rfl, ?_⟩, fun _ => rfl⟩ ?_
        · (intro w9; go_simp; try with_reducible rfl)
        try simp only [Act.put, List.setIfInBounds_toArray, List.set_cons_zero, List.set_cons_succ]
        refine wpAnyIn_ready (rs := [0, 3]) (by kernel_rfl) (by simp) ?_
        refine AllReadyIn.cons (o := ⟨some 14, _, _, _, _, _⟩) rfl (fun K9 hK9 => ?_) ?_
        · skip
          go_simp
          refine hK9 _ _ ?_
          clear hK9 K9
          try simp only [Act.put, List.setIfInBounds_toArray, List.set_cons_zero, List.set_cons_succ]
          refine wpAnyIn_ready (rs := [2, 3]) (by kernel_rfl) (by simp) ?_
          refine AllReadyIn.cons (o := ⟨some 16, _, _, _, _, _⟩) rfl (fun K9 hK9 => ?_) ?_
          · skip
            go_simp
            gi_wp2_with fail
            refine ⟨trivial, ?_⟩
            refine (callsIn_wide.2 (HHj.out _ hd)).mono ?_
            rintro e w1 ⟨rfl, hb1⟩
            obtain ⟨c3, c4⟩ := HC1.out w1 (bt hd hb1)
            gi_wp2_with fail
            try simp only [Act.put, List.setIfInBounds_toArray, List.set_cons_zero, List.set_cons_succ]
            refine wpAnyIn_ready (rs := [3]) (by kernel_rfl) (by simp) ?_
            refine AllReadyIn.cons (o := ⟨some 17, _, _, _, _, _⟩) rfl (fun K9 hK9 => ?_) AllReadyIn.nil
            go_simp
            refine hK9 _ _ ?_
            clear hK9 K9
            try simp only [Act.put, List.setIfInBounds_toArray, List.set_cons_zero, List.set_cons_succ]
            refine wpAnyIn_take (i := 4) (oi := ⟨some 18, _, _, _, _, _⟩) (v := .bool false) rfl rfl (by kernel_rfl) (by kernel_rfl) (by kernel_rfl) (fun _ _ _ h => h) ⟨Or.inl ⟨by rfl, ?_⟩, fun _ => rfl⟩ ?_
            · (intro w9; go_simp; try with_reducible rfl)
            try simp only [Act.put, List.setIfInBounds_toArray, List.set_cons_zero, List.set_cons_succ]
            refine wpAnyIn_take (i := 5) (oi := ⟨some 19, _, _, _, _, _⟩) (v := .bool false) rfl rfl (by kernel_rfl) (by kernel_rfl) (by kernel_rfl) (fun _ _ _ h => h) ⟨Or.inl ⟨by rfl, ?_⟩, fun _ => rfl⟩ ?_
            · (intro w9; go_simp; try with_reducible rfl)
            try simp only [Act.put, List.setIfInBounds_toArray, List.set_cons_zero, List.set_cons_succ]
            refine wpAnyIn_take (i := 6) (oi := ⟨some 20, _, _, _, _, _⟩) (v := undef) rfl rfl (by kernel_rfl) (by kernel_rfl) (by kernel_rfl) (fun _ _ _ h => h) ⟨Or.inr ⟨by rfl, rfl⟩, fun _ => rfl⟩ ?_
            try simp only [Act.put, List.setIfInBounds_toArray, List.set_cons_zero, List.set_cons_succ]
            refine wpAnyIn_take (i := 7) (oi := ⟨some 21, _, _, _, _, _⟩) (v := undef) rfl rfl (by kernel_rfl) (by kernel_rfl) (by kernel_rfl) (fun _ _ _ h => h) ⟨Or.inr ⟨by rfl, rfl⟩, fun _ => rfl⟩ ?_
            try simp only [Act.put, List.setIfInBounds_toArray, List.set_cons_zero, List.set_cons_succ]
            refine wpAnyIn_take (i := 8) (oi := ⟨some 22, _, _, _, _, _⟩) (v := undef) rfl rfl (by kernel_rfl) (by kernel_rfl) (by kernel_rfl) (fun _ _ _ h => h) ⟨Or.inr ⟨by rfl, rfl⟩, fun _ => rfl⟩ ?_
            try simp only [Act.put, List.setIfInBounds_toArray, List.set_cons_zero, List.set_cons_succ]
            refine wpAnyIn_take (i := 9) (oi := ⟨some 23, _, _, _, _, _⟩) (v := undef) rfl rfl (by kernel_rfl) (by kernel_rfl) (by kernel_rfl) (fun _ _ _ h => h) ⟨Or.inr ⟨by rfl, rfl⟩, fun _ => rfl⟩ ?_
            try simp only [Act.put, List.setIfInBounds_toArray, List.set_cons_zero, List.set_cons_succ]
            refine wpAnyIn_take (i := 10) (oi := ⟨some 24, _, _, _, _, _⟩) (v := .bool false) rfl rfl (by kernel_rfl) (by kernel_rfl) (by kernel_rfl) (fun _ _ _ h => h) ⟨Or.inl ⟨by rfl, ?_⟩, fun _ => rfl⟩ ?_
            · (intro w9; go_simp; try with_reducible rfl)
            try simp only [Act.put, List.setIfInBounds_toArray, List.set_cons_zero, List.set_cons_succ]
            refine wpAnyIn_done (by kernel_rfl) ?_ _
            simp only [Exit.then]
            go_at_K
            gi_wp2
            exact ⟨⟨j + 1, Lib.hid HNX.out.1, by simp, Lib.hid ⟨by rw [HT1.out]; exact HJ1.out w1 (bt hd hb1), HB1.out w1 (bt hd hb1)⟩⟩, by have := HNX.out.2; simp [intOf]; omega⟩
          refine AllReadyIn.cons (o := ⟨some 17, _, _, _, _, _⟩) rfl (fun K9 hK9 => ?_) AllReadyIn.nil
          go_simp
          refine hK9 _ _ ?_
          clear hK9 K9
          try simp only [Act.put, List.setIfInBounds_toArray, List.set_cons_zero, List.set_cons_succ]
          refine wpAnyIn_ready (rs := [2]) (by kernel_rfl) (by simp) ?_
          refine AllReadyIn.cons (o := ⟨some 16, _, _, _, _, _⟩) rfl (fun K9 hK9 => ?_) AllReadyIn.nil
          go_simp
          gi_wp2_with fail
          refine ⟨trivial, ?_⟩
          refine (callsIn_wide.2 (HHj.out _ hd)).mono ?_
          rintro e w1 ⟨rfl, hb1⟩
          obtain ⟨c3, c4⟩ := HC1.out w1 (bt hd hb1)
          gi_wp2_with fail
          try simp only [Act.put, List.setIfInBounds_toArray, List.set_cons_zero, List.set_cons_succ]
          refine wpAnyIn_take (i := 4) (oi := ⟨some 18, _, _, _, _, _⟩) (v := .bool false) rfl rfl (by kernel_rfl) (by kernel_rfl) (by kernel_rfl) (fun _ _ _ h => h) ⟨Or.inl ⟨by rfl, ?_⟩, fun _ => rfl⟩ ?_
          · (intro w9; go_simp; try with_reducible rfl)
          try simp only [Act.put, List.setIfInBounds_toArray, List.set_cons_zero, List.set_cons_succ]
          refine wpAnyIn_take (i := 5) (oi := ⟨some 19, _, _, _, _, _⟩) (v := .bool false) rfl rfl (by kernel_rfl) (by kernel_rfl) (by kernel_rfl) (fun _ _ _ h => h) ⟨Or.inl ⟨by rfl, ?_⟩, fun _ => rfl⟩ ?_
          · (intro w9; go_simp; try with_reducible rfl)
          try simp only [Act.put, List.setIfInBounds_toArray, List.set_cons_zero, List.set_cons_succ]
          refine wpAnyIn_take (i := 6) (oi := ⟨some 20, _, _, _, _, _⟩) (v := undef) rfl rfl (by kernel_rfl) (by kernel_rfl) (by kernel_rfl) (fun _ _ _ h => h) ⟨Or.inr ⟨by rfl, rfl⟩, fun _ => rfl⟩ ?_
          try simp only [Act.put, List.setIfInBounds_toArray, List.set_cons_zero, List.set_cons_succ]
          refine wpAnyIn_take (i := 7) (oi := ⟨some 21, _, _, _, _, _⟩) (v := undef) rfl rfl (by kernel_rfl) (by kernel_rfl) (by kernel_rfl) (fun _ _ _ h => h) ⟨Or.inr ⟨by rfl, rfl⟩, fun _ => rfl⟩ ?_
          try simp only [Act.put, List.setIfInBounds_toArray, List.set_cons_zero, List.set_cons_succ]
          refine wpAnyIn_take (i := 8) (oi := ⟨some 22, _, _, _, _, _⟩) (v := undef) rfl rfl (by kernel_rfl) (by kernel_rfl) (by kernel_rfl) (fun _ _ _ h => h) ⟨Or.inr ⟨by rfl, rfl⟩, fun _ => rfl⟩ ?_
          try simp only [Act.put, List.setIfInBounds_toArray, List.set_cons_zero, List.set_cons_succ]
          refine wpAnyIn_take (i := 9) (oi := ⟨some 23, _, _, _, _, _⟩) (v := undef) rfl rfl (by kernel_rfl) (by kernel_rfl) (by kernel_rfl) (fun _ _ _ h => h) ⟨Or.inr ⟨by rfl, rfl⟩, fun _ => rfl⟩ ?_
          try simp only [Act.put, List.setIfInBounds_toArray, List.set_cons_zero, List.set_cons_succ]
          refine wpAnyIn_take (i := 10) (oi := ⟨some 24, _, _, _, _, _⟩) (v := .bool false) rfl rfl (by kernel_rfl) (by kernel_rfl) (by kernel_rfl) (fun _ _ _ h => h) ⟨Or.inl ⟨by rfl, ?_⟩, fun _ => rfl⟩ ?_
          · (intro w9; go_simp; try with_reducible rfl)
          try simp only [Act.put, List.setIfInBounds_toArray, List.set_cons_zero, List.set_cons_succ]
          refine wpAnyIn_done (by kernel_rfl) ?_ _
          simp only [Exit.then]
          go_at_K
          gi_wp2
          exact ⟨⟨j + 1, Lib.hid HNX.out.1, by simp, Lib.hid ⟨by rw [HT1.out]; exact HJ1.out w1 (bt hd hb1), HB1.out w1 (bt hd hb1)⟩⟩, by have := HNX.out.2; simp [intOf]; omega⟩
        refine AllReadyIn.cons (o := ⟨some 17, _, _, _, _, _⟩) rfl (fun K9 hK9 => ?_) AllReadyIn.nil
        go_simp
        refine hK9 _ _ ?_
        clear hK9 K9
        try simp only [Act.put, List.setIfInBounds_toArray, List.set_cons_zero, List.set_cons_succ]
        refine wpAnyIn_ready (rs := [0]) (by kernel_rfl) (by simp) ?_
        refine AllReadyIn.cons (o := ⟨some 14, _, _, _, _, _⟩) rfl (fun K9 hK9 => ?_) AllReadyIn.nil
        go_simp
        refine hK9 _ _ ?_
        clear hK9 K9
        try simp only [Act.put, List.setIfInBounds_toArray, List.set_cons_zero, List.set_cons_succ]
        refine wpAnyIn_ready (rs := [2]) (by kernel_rfl) (by simp) ?_
        refine AllReadyIn.cons (o := ⟨some 16, _, _, _, _, _⟩) rfl (fun K9 hK9 => ?_) AllReadyIn.nil
        go_simp
        gi_wp2_with fail
        refine ⟨trivial, ?_⟩
        refine (callsIn_wide.2 (HHj.out _ hd)).mono ?_
        rintro e w1 ⟨rfl, hb1⟩
        obtain ⟨c3, c4⟩ := HC1.out w1 (bt hd hb1)
        gi_wp2_with fail
        try simp only [Act.put, List.setIfInBounds_toArray, List.set_cons_zero, List.set_cons_succ]
        refine wpAnyIn_take (i := 4) (oi := ⟨some 18, _, _, _, _, _⟩) (v := .bool false) rfl rfl (by kernel_rfl) (by kernel_rfl) (by kernel_rfl) (fun _ _ _ h => h) ⟨Or.inl ⟨by rfl, ?_⟩, fun _ => rfl⟩ ?_
        · (intro w9; go_simp; try with_reducible rfl)
        try simp only [Act.put, List.setIfInBounds_toArray, List.set_cons_zero, List.set_cons_succ]
        refine wpAnyIn_take (i := 5) (oi := ⟨some 19, _, _, _, _, _⟩) (v := .bool false) rfl rfl (by kernel_rfl) (by kernel_rfl) (by kernel_rfl) (fun _ _ _ h => h) ⟨Or.inl ⟨by rfl, ?_⟩, fun _ => rfl⟩ ?_
        · (intro w9; go_simp; try with_reducible rfl)
        try simp only [Act.put, List.setIfInBounds_toArray, List.set_cons_zero, List.set_cons_succ]
        refine wpAnyIn_take (i := 6) (oi := ⟨some 20, _, _, _, _, _⟩) (v := undef) rfl rfl (by kernel_rfl) (by kernel_rfl) (by kernel_rfl) (fun _ _ _ h => h) ⟨Or.inr ⟨by rfl, rfl⟩, fun _ => rfl⟩ ?_
        try simp only [Act.put, List.setIfInBounds_toArray, List.set_cons_zero, List.set_cons_succ]
        refine wpAnyIn_take (i := 7) (oi := ⟨some 21, _, _, _, _, _⟩) (v := undef) rfl rfl (by kernel_rfl) (by kernel_rfl) (by kernel_rfl) (fun _ _ _ h => h) ⟨Or.inr ⟨by rfl, rfl⟩, fun _ => rfl⟩ ?_
        try simp only [Act.put, List.setIfInBounds_toArray, List.set_cons_zero, List.set_cons_succ]
        refine wpAnyIn_take (i := 8) (oi := ⟨some 22, _, _, _, _, _⟩) (v := undef) rfl rfl (by kernel_rfl) (by kernel_rfl) (by kernel_rfl) (fun _ _ _ h => h) ⟨Or.inr ⟨by rfl, rfl⟩, fun _ => rfl⟩ ?_
        try simp only [Act.put, List.setIfInBounds_toArray, List.set_cons_zero, List.set_cons_succ]
        refine wpAnyIn_take (i := 9) (oi := ⟨some 23, _, _, _, _, _⟩) (v := undef) rfl rfl (by kernel_rfl) (by kernel_rfl) (by kernel_rfl) (fun _ _ _ h => h) ⟨Or.inr ⟨by rfl, rfl⟩, fun _ => rfl⟩ ?_
        try simp only [Act.put, List.setIfInBounds_toArray, List.set_cons_zero, List.set_cons_succ]
        refine wpAnyIn_take (i := 10) (oi := ⟨some 24, _, _, _, _, _⟩) (v := .bool false) rfl rfl (by kernel_rfl) (by kernel_rfl) (by kernel_rfl) (fun _ _ _ h => h) ⟨Or.inl ⟨by rfl, ?_⟩, fun _ => rfl⟩ ?_
        · (intro w9; go_simp; try with_reducible rfl)
        try simp only [Act.put, List.setIfInBounds_toArray, List.set_cons_zero, List.set_cons_succ]
        refine wpAnyIn_done (by kernel_rfl) ?_ _
        simp only [Exit.then]
        go_at_K
        gi_wp2
        exact ⟨⟨j + 1, Lib.hid HNX.out.1, by simp, Lib.hid ⟨by rw [HT1.out]; exact HJ1.out w1 (bt hd hb1), HB1.out w1 (bt hd hb1)⟩⟩, by have := HNX.out.2; simp [intOf]; omega⟩
    · obtain rfl : j = n := by have := HI.out; omega
      gi_wp2
      go_end0
      exact ⟨⟨_, rfl⟩, .inl HB.out.1⟩

theorem vhigher_hands (N : Nat) (hN : 1 ≤ N) (Bl Bk Bv : Nat) (k : List UInt8) (A : Option Addr) (n c : Nat) (L : List Nat) (lev : Int) (w0 w : World) (hk : k.length ≤ 60000) (hA : VR vu w0 A L) (hl : L.length = n) (hx : ∀ x ∈ L, x < 18446744073709551616) (hn : n ≤ 65536) (hT : VTab w0)
    (b1 : Blk w0 Bl 23 #[.slice A n c]) (b2 : Blk w0 Bk 9 #[.string ⟨k.toArray⟩]) (b3 : Blk w0 Bv 3 #[.int .i64 lev]) (hw : Below w0.heap.size w0 w) :
    HandsV vi N 31 #[.pointer (some ⟨Bl, 0, none⟩), .pointer (some ⟨Bk, 0, none⟩), .pointer (some ⟨Bv, 0, none⟩)] w0.heap.size (abL k L lev n) w := fun l J Jx W hW hAb hY h0 =>
  vhigher_in N hN l Bl Bk Bv k A n c L lev w0 hk hA hl hx hn hT b1 b2 b3 J Jx W (bt hw hW) hAb hY h0
end Go.Proofs.YtcakhepiceilkaaDoor
/- slices.AppendSeq and slices.Collect over a function that hands ints on; the contracts of Above. -/
namespace Go.Proofs.YtcakhepiceilkaaDoor
open Go.RowKit Go.Shelf
attribute [local go_sem] Oper.semAt_some

theorem vown_kept {W W' : World} {base : Nat} {e : TypeId} {size : Nat} {v : Value} {n : Nat} {xs : List Value} (h : W.ownsRow base e size v n xs) (hk : ∀ k, v.ownBlock = some k → W'.heap[k]? = W.heap[k]?) : W'.ownsRow base e size v n xs := by
  refine ⟨h.1, ?_⟩
  rcases h.2 with h2 | ⟨g, cap, cur, hv, hg, hh, r⟩
  · exact Or.inl h2
  · exact Or.inr ⟨g, cap, cur, hv, hg, (hk g (by rw [hv]; rfl)).trans hh, r⟩
theorem vown_blk {W : World} {base : Nat} {e : TypeId} {size : Nat} {v : Value} {n : Nat} {xs : List Value} (h : W.ownsRow base e size v n xs) (k : Nat) (hk : v.ownBlock = some k) : base ≤ k ∧ ∃ cs, Blk W k e cs := by
  rcases h.2 with ⟨h2, _⟩ | ⟨g, cap, cur, hv, hg, hh, r⟩
  · rw [h2] at hk; cases hk
  · rw [hv] at hk
    cases hk
    exact ⟨hg, cur, hh⟩
theorem vown_ne {w : World} {g : Nat} {t : TypeId} {cs : Array Value} {base : Nat} {e : TypeId} {size n : Nat} {v : Value} {xs : List Value} (h : w.ownsRow base e size v n xs) (hg : Blk w g t cs) (hne : e ≠ t) : v.ownBlock ≠ some g := by
  intro he
  obtain ⟨_, cs2, hb⟩ := vown_blk h g he
  have h9 : some (Obj.cells cs t (0, 0)) = some (Obj.cells cs2 e (0, 0)) := (show w.heap[g]? = _ from hg).symm.trans hb
  injection h9 with h9
  injection h9 with _ h9
  exact hne h9.symm
theorem vkeeps_grown {B : Nat} {W W' : World} {row : Option Nat} (h : W.grownBy W' row) (hr : ∀ k, row = some k → ∃ t cs, Blk W k t cs) : KeepsFrom B W W' :=
  (show KeepsOthers W W' from ⟨h.size, fun k o hk hc => (h.block k (Array.getElem?_eq_some_iff.1 hk).1 (fun e => by
    obtain ⟨t, cs, hb⟩ := hr k e.symm
    rw [show W.heap[k]? = _ from hb] at hk
    cases hk
    cases hc)).trans hk⟩).from _
theorem vblk_putObj {W : World} {g D : Nat} {t : TypeId} {cs : Array Value} {o o' : Obj} (hb : Blk W g t cs) (hD : W.heap[D]? = some o) (ho : o.isCells = false) : Blk (W.putObj D o') g t cs :=
  (World.putObj_heap_other (fun e => by
    subst e
    rw [show W.heap[g]? = _ from hb] at hD
    cases hD
    cases ho)).trans hb

/-- Between two rounds. -/
def ApI (w : World) (pre : List Nat) (W : World) : Prop :=
  ∃ v, Blk W w.heap.size 27 #[v] ∧ W.ownsRow w.heap.size 3 1 v pre.length (pre.map vi) ∧ Below w.heap.size w W
theorem ApI_kept (w : World) {B : Nat} (hB : w.heap.size ≤ B) : KeptV B (ApI w) := by
  rintro s W W' row ⟨v, h2, h3, h6⟩ hg hr
  refine ⟨v, hr.blk hg h2, vown_kept h3 (fun k hk => ?_), h6.grown hg h6.size (fun k e => Nat.le_trans hB (hr k e).1)⟩
  obtain ⟨_, cs, hb⟩ := vown_blk h3 k hk
  exact (hr.blk hg hb).trans hb.symm
/-- A round's end. -/
theorem ApI_more {w : World} {pre : List Nat} {x : Nat} {V w6 : World} {v v6 : Value} (h2 : Blk V w.heap.size 27 #[v]) (h3 : V.ownsRow w.heap.size 3 1 v pre.length (pre.map vi)) (h4 : Below w.heap.size w V)
    (g1 : w6.ownsRow w.heap.size 3 1 v6 (pre.length + 1) (pre.map vi ++ [vi x])) (g2 : (V.alloc (.cells #[vi x] 3)).grownBy w6 v.ownBlock) :
    (w6.cell? ⟨w.heap.size, 0, none⟩ = some v ∧ w6.frozen? ⟨w.heap.size, 0, none⟩ = false) ∧ (KeepsFrom w.heap.size V (w6.setCell ⟨w.heap.size, 0, none⟩ v6) ∧ KpV w.heap.size V (w6.setCell ⟨w.heap.size, 0, none⟩ v6) ∧ ApI w (pre ++ [x]) (w6.setCell ⟨w.heap.size, 0, none⟩ v6)) := by
  have hbb := ba (Below.refl V.heap.size V) (.cells #[vi x] 3)
  have hown := own_later h3 hbb
  have hrow : ∀ k, v.ownBlock = some k → w.heap.size ≤ k ∧ ∃ cs, Blk (V.alloc (.cells #[vi x] 3)) k 3 cs := fun k hk => vown_blk hown k hk
  have j2 : Blk w6 w.heap.size 27 #[v] := (g2.block _ (Nat.lt_of_lt_of_le h2.lt hbb.size) (fun e => vown_ne hown (h2.below hbb) (by decide) e.symm)).trans (h2.below hbb)
  have hk6 : Below w.heap.size V w6 := (hbb.mono h4.size).grown g2 (Nat.le_trans h4.size hbb.size) (fun k e => (hrow k e).1)
  have h6 : Below w.heap.size w w6 := h4.trans hk6
  have hne6 : ∀ k, v6.ownBlock = some k → k ≠ w.heap.size := fun k hk e => vown_ne g1 j2 (by decide) (by rw [hk, e])
  refine ⟨⟨j2.cell 0, j2.frozen 0⟩, ?_, ?_, v6, j2.set_ 0 v6, ?_, bs h6 (Nat.le_refl _) _⟩
  · exact (((KeepsOthers.alloc _ _).from _).trans (vkeeps_grown g2 (fun k e => ⟨_, (hrow k e).2⟩))).trans ((KeepsOthers.setCell _ _ _).from _)
  · exact hk6.setCell (p := ⟨w.heap.size, 0, none⟩) (Nat.le_refl _) v6
  · rw [List.length_append, List.map_append]
    exact vown_kept g1 (fun k hk => Below.heap_setCell w6 ⟨w.heap.size, 0, none⟩ v6 k (hne6 k hk))

set_option maxRecDepth 100000 in
set_option maxHeartbeats 8000000 in
theorem vappend_any (lb : Array Value) (zs : List Nat) (w : World) (hH : HandsV vi 5 31 lb w.heap.size zs w) (hl : zs.length ≤ 65536) :
    Calls Tryd.prog 30 #[.slice none 0 0, .func (.func 31) #[] lb] w fun e w' => ∃ A c, e = .returned (.slice A zs.length c) ∧ w'.ownsRow w.heap.size 3 1 (.slice A zs.length c) zs.length (zs.map vi) ∧ Below w.heap.size w w' := by
  obtain ⟨i0, hi0, hz0, hz1, hz2⟩ := info_parts infoVI
  have HB0 := ba (Below.refl w.heap.size w) (.cells #[.slice none 0 0] 27)
  have HG0 := Blk.new w 27 #[.slice none 0 0]
  have hz : w.heap.size ≤ (w.alloc (.cells #[.slice none 0 0] 27)).heap.size := by simp
  have eg : ∀ args w, (callFunc 31 args).run Tryd.prog w = .ok (.enter 31 args) w := enters_of Tryd.func31 (by kernel_rfl) rfl
  refine (callsIn_wide (n := 6)).1 ?_
  refine callsIn_of_wp_marks Tryd.func30 rfl trivial ?_ rfl
  simp only [Tryd.ntmps30, List.size_toArray, List.length_cons, List.length_nil, Nat.reduceAdd, Nat.reduceSub, Array.replicate_succ, Array.replicate_zero, List.push_toArray, List.append_toArray, List.nil_append, List.cons_append]
  gi_wp2_with fail
  generalize w.alloc (.cells #[.slice none 0 0] 27) = W0 at HB0 HG0 hz ⊢
  refine range_v (e1 := vi) (n := 6) (w0 := w) (by omega) (gf := 31) (lb := lb) rfl eg (n₀ := w.heap.size) hz hH HB0 (ApI w) (fun _ _ _ => False) (ApI_kept w hz) (fun _ _ _ _ _ h => h.elim) ⟨_, HG0, World.ownsRow_nil _ _ _ _, HB0⟩
    (fun x a' W => a' = { tmps := #[.slice none 0 0, .func (.func 31) #[] lb, .pointer (some ⟨w.heap.size, 0, none⟩), undef, .slice none 0 0, vi x, .func (.func 31) #[] lb, vi x, undef, undef, undef, undef, undef], defers := [] })
    (fun x a' Y l o o' hs hl ho hc => hs)
    ?assign ?body ?done ?stop
  case assign =>
    rintro l pre x W Kc hI hKc
    gi_wp2
    exact hKc _ _ (KeepsFrom.refl _ _) (KpV.refl _ _) hI rfl
  case body =>
    rintro l9 pre x a' V' hl9 ⟨v, i2, i3, i4⟩ rfl hpre
    have HLN : Hid (pre.length ≤ 65536) := Lib.hid (by
      have h5 := hpre.length_le
      rw [List.length_append, List.length_singleton] at h5
      omega)
    have HEND : Hid (∀ (v6 : Value) (w6 : World), w6.ownsRow w.heap.size 3 1 v6 (pre.length + 1) (pre.map vi ++ [vi x]) → (V'.alloc (.cells #[vi x] 3)).grownBy w6 v.ownBlock →
        (w6.cell? ⟨w.heap.size, 0, none⟩ = some v ∧ w6.frozen? ⟨w.heap.size, 0, none⟩ = false) ∧ (KeepsFrom W0.heap.size V' (w6.setCell ⟨w.heap.size, 0, none⟩ v6) ∧ KpV w.heap.size V' (w6.setCell ⟨w.heap.size, 0, none⟩ v6) ∧ ApI w (pre ++ [x]) (w6.setCell ⟨w.heap.size, 0, none⟩ v6))) := Lib.hid (fun v6 w6 g1 g2 => by
      obtain ⟨e1, e2, e3, e4⟩ := ApI_more i2 i3 i4 g1 g2
      exact ⟨e1, ⟨e2.1, fun k o hB hk hc => e2.2 k o (by omega) hk hc⟩, e3, e4⟩)
    have hownA := i3
    have hown := own_later i3 (ba (Below.refl V'.heap.size V') (.cells #[vi x] 3))
    have hnews := World.news_of_block (heap_alloc_new V' (.cells #[vi x] 3))
    have HSZ : Hid (w.heap.size ≤ (V'.alloc (.cells #[vi x] 3)).heap.size) := Lib.hid (Nat.le_trans i4.size (ba (Below.refl V'.heap.size V') (.cells #[vi x] 3)).size)
    have c1 : V'.cell? ⟨w.heap.size, 0, none⟩ = some v := i2.cell 0
    clear i2 i3 i4 hpre hownA HB0 HG0 hl
    gi_wp2_with (gi_at_builtin; go_must (refine wpListIn_append_own _ rfl _ _ 27 rfl w.heap.size 3 i0 (.int .i64 0) 1 8 Tryd.underlying27 hi0 hz0 hz1 hz2 rfl (by decide) _ _ _ rfl hown ⟨V'.heap.size, 0, none⟩ 1 1 [vi x] rfl rfl hnews (by simp [Value.oneCell']) (by unfold maxLen; have := HLN.out; omega) (by have := HLN.out; omega) HSZ.out ?_); intro v6 w6 hown6 hgr6 _; obtain ⟨g6, d6, rfl⟩ := ownsRow_succ hown6; have HE6 := Lib.hid (HEND.out _ w6 hown6 hgr6); have c6 := HE6.out.1.1; have f6 := HE6.out.1.2; clear hown6 hgr6)
    exact HE6.out.2
  case done =>
    rintro D W hD ⟨v, i2, i3, i4⟩ hKd
    obtain ⟨A', c', rfl, hcc⟩ := own_form i3
    clear hcc
    have c0 : W.cell? ⟨w.heap.size, 0, none⟩ = some (.slice A' zs.length c') := i2.cell 0
    have HF : Hid ((W.putObj D (.deferred none)).ownsRow w.heap.size 3 1 (.slice A' zs.length c') zs.length (zs.map vi)) := Lib.hid (vown_kept i3 (fun k hk => by
        obtain ⟨_, cs, hb⟩ := vown_blk i3 k hk
        exact (vblk_putObj hb hKd rfl).trans hb.symm))
    have HBW : Hid (Below w.heap.size w (W.putObj D (.deferred none))) := Lib.hid (i4.grown (grownBy_putObj' W D _) i4.size (fun k e => by cases e; omega))
    clear i2 i3 i4 HB0 HG0 hH hl
    gi_wp2
    refine ⟨by simp, .inl ⟨_, _, rfl, run_takeDeferred hKd, ?_⟩⟩
    exact ⟨.slice A' zs.length c', by kernel_rfl, A', c', rfl, HF.out, HBW.out⟩
  case stop =>
    rintro D c pre W hD hp h
    exact h.elim
end Go.Proofs.YtcakhepiceilkaaDoor
/- The contracts of Above. -/
namespace Go.Proofs.YtcakhepiceilkaaDoor
open Go.RowKit Go.Shelf

set_option maxRecDepth 100000 in
set_option maxHeartbeats 1000000 in
theorem visLevel_any (lev : Int) (w : World) : Calls Tryd.prog 19 #[.int .i64 lev] w fun e w' => e = .returned (.bool (decide (0 ≤ lev) && decide (lev ≤ 8))) ∧ w = w' := by
  go_enter Tryd.func19, Tryd.ntmps19
  by_cases h1 : 0 ≤ lev
  · by_cases h2 : lev ≤ 8
    · have e : (decide (0 ≤ lev) && decide (lev ≤ 8)) = true := by simp [h1, h2]
      rw [e]
      clear e
      go_wp2
      go_ret
      exact ⟨rfl, rfl⟩
    · have e : (decide (0 ≤ lev) && decide (lev ≤ 8)) = false := by simp [h1, h2]
      rw [e]
      clear e
      go_wp2
      go_ret
      exact ⟨rfl, rfl⟩
  · have e : (decide (0 ≤ lev) && decide (lev ≤ 8)) = false := by simp [h1]
    rw [e]
    clear e
    go_wp2
    go_ret
    exact ⟨rfl, rfl⟩

set_option maxRecDepth 100000 in
set_option maxHeartbeats 1000000 in
theorem vabove_no (s : ByteArray) (A : Option Addr) (n c : Nat) (lev : Int) (w : World) (h : ¬ (0 ≤ lev ∧ lev ≤ 8)) :
    Calls Tryd.prog 12 #[.string s, .slice A n c, .int .i64 lev] w fun e w' => e = .returned (.tuple #[.slice none 0 0, .int .i64 2]) ∧ w = w' := by
  have HL := Lib.hid (fun W => visLevel_any lev W)
  have e : (decide (0 ≤ lev) && decide (lev ≤ 8)) = false := by simp; omega
  rw [e] at HL
  clear e h
  go_enter Tryd.func12, Tryd.ntmps12
  go_wp2_with fail
  refine (HL.out _).mono ?_
  rintro e w1 ⟨rfl, rfl⟩
  go_wp2
  go_ret2
  exact ⟨rfl, rfl⟩

/-- The world behind higher: three boxes. -/
def vbox (w : World) (s : ByteArray) (A : Option Addr) (n c : Nat) (lev : Int) : World :=
  ((w.alloc (.cells #[.string s] 9)).alloc (.cells #[.slice A n c] 23)).alloc (.cells #[.int .i64 lev] 3)
set_option maxRecDepth 100000 in
set_option maxHeartbeats 1000000 in
theorem vhigher_any (s : ByteArray) (A : Option Addr) (n c : Nat) (lev : Int) (w : World) :
    Calls Tryd.prog 21 #[.string s, .slice A n c, .int .i64 lev] w fun e w' => e = .returned (.func (.func 31) #[] #[.pointer (some ⟨w.heap.size + 1, 0, none⟩), .pointer (some ⟨w.heap.size, 0, none⟩), .pointer (some ⟨w.heap.size + 2, 0, none⟩)]) ∧ w' = vbox w s A n c lev := by
  go_enter Tryd.func21, Tryd.ntmps21
  go_wp2
  go_ret
  exact ⟨rfl, rfl⟩

set_option maxRecDepth 100000 in
set_option maxHeartbeats 1000000 in
theorem vcollect_any (lb : Array Value) (zs : List Nat) (w : World) (hH : HandsV vi 5 31 lb w.heap.size zs w) (hl : zs.length ≤ 65536) :
    Calls Tryd.prog 20 #[.func (.func 31) #[] lb] w fun e w' => ∃ A c, e = .returned (.slice A zs.length c) ∧ w'.ownsRow w.heap.size 3 1 (.slice A zs.length c) zs.length (zs.map vi) ∧ Below w.heap.size w w' := by
  have HA := Lib.hid (vappend_any lb zs w hH hl)
  clear hH hl
  go_enter Tryd.func20, Tryd.ntmps20
  go_wp2_with fail
  refine HA.out.mono ?_
  rintro e w1 ⟨A, c, rfl, ho, hb⟩
  have HO := Lib.hid (And.intro ho hb)
  clear ho hb
  go_wp2
  go_ret
  exact ⟨A, c, rfl, HO.out.1, HO.out.2⟩

set_option maxRecDepth 100000 in
set_option maxHeartbeats 2000000 in
theorem vabove_yes (k : List UInt8) (A : Option Addr) (n c : Nat) (L : List Nat) (lev : Int) (w : World) (h : 0 ≤ lev ∧ lev ≤ 8) (hk : k.length ≤ 60000) (hA : VR vu w A L) (hl : L.length = n) (hx : ∀ x ∈ L, x < 18446744073709551616) (hn : n ≤ 65536) (hT : VTab w) :
    Calls Tryd.prog 12 #[.string ⟨k.toArray⟩, .slice A n c, .int .i64 lev] w fun e w' => ∃ B d m, m = (abL k L lev n).length ∧ e = .returned (.tuple #[.slice B m d, .int .i64 0]) ∧ w'.ownsRow w.heap.size 3 1 (.slice B m d) m ((abL k L lev n).map vi) ∧ Below w.heap.size w w' := by
  have HL := Lib.hid (fun W => visLevel_any lev W)
  have e : (decide (0 ≤ lev) && decide (lev ≤ 8)) = true := by simp; omega
  rw [e] at HL
  clear e h
  have HB : Below w.heap.size w (vbox w ⟨k.toArray⟩ A n c lev) := ba (ba (ba (Below.refl _ _) _) _) _
  have b2 : Blk (vbox w ⟨k.toArray⟩ A n c lev) w.heap.size 9 #[.string ⟨k.toArray⟩] := ((Blk.new w _ _).alloc _).alloc _
  have b1 : Blk (vbox w ⟨k.toArray⟩ A n c lev) (w.heap.size + 1) 23 #[.slice A n c] := (Blk.newAt (by simp) _ _).alloc _
  have b3 : Blk (vbox w ⟨k.toArray⟩ A n c lev) (w.heap.size + 2) 3 #[.int .i64 lev] := Blk.newAt (by simp) _ _
  have HC := Lib.hid (vcollect_any _ (abL k L lev n) (vbox w ⟨k.toArray⟩ A n c lev) (vhigher_hands 5 (by omega) _ _ _ k A n c L lev _ _ hk (hA.later HB) hl hx hn (hT.later HB) b1 b2 b3 (Below.refl _ _)) (Nat.le_trans (abL_len _ _ _ _) hn))
  have HH := Lib.hid (vhigher_any ⟨k.toArray⟩ A n c lev w)
  have HB := Lib.hid HB
  clear hk hA hl hx hn hT b1 b2 b3
  generalize abL k L lev n = T at *
  generalize vbox w ⟨k.toArray⟩ A n c lev = W at *
  go_enter Tryd.func12, Tryd.ntmps12
  go_wp2_with fail
  refine (HL.out _).mono ?_
  rintro e w1 ⟨rfl, rfl⟩
  go_wp2_with fail
  refine HH.out.mono ?_
  rintro e w2 ⟨rfl, rfl⟩
  go_wp2_with fail
  refine HC.out.mono ?_
  rintro e w3 ⟨B, d, rfl, ho, hb⟩
  have HO := Lib.hid (And.intro ho hb)
  clear ho hb
  go_wp2
  go_ret2
  exact ⟨B, d, _, rfl, rfl, (by
    have h1 := HO.out.1
    have h2 := HB.out.size
    exact ⟨h1.1, h1.2.imp id (fun ⟨g, cap, cur, e, hg, r⟩ => ⟨g, cap, cur, e, Nat.le_trans h2 hg, r⟩)⟩), bt HB.out HO.out.2⟩
end Go.Proofs.YtcakhepiceilkaaDoor
