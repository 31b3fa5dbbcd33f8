/- Texts of this seat, one behind the other: IRefB, IRefR. -/
import Derived.Test.YtegojdblaanclaaDoorQ02
/- The contracts of the reference's Drop, Put and Keys: rows that grow. -/
namespace Go.Proofs.YtegojdblaanclaaDoor
open Go.RowKit

theorem iown_nil {W : World} {t : TypeId} {g base size : Nat} (h : Blk W g t #[]) (hb : base ≤ g) : W.ownsRow base t size (.slice (some ⟨g, 0, none⟩) 0 0) 0 [] :=
  ⟨by simp, .inr ⟨g, 0, #[], rfl, hb, h, Nat.le_refl _, Nat.zero_le _, by simp, by simp⟩⟩
theorem filter_take_yes (f : ItL → Bool) {L : List ItL} {j : Nat} (hj : j < L.length) (h : f (L.getD j (0, [])) = true) : (L.take (j + 1)).filter f = (L.take j).filter f ++ [L.getD j (0, [])] := by
  rw [List.take_succ_eq_append_getElem hj, List.filter_append]
  simp only [List.getD, List.getElem?_eq_getElem hj, Option.getD_some] at h ⊢
  simp [h]
theorem filter_take_no (f : ItL → Bool) {L : List ItL} {j : Nat} (hj : j < L.length) (h : f (L.getD j (0, [])) = false) : (L.take (j + 1)).filter f = (L.take j).filter f := by
  rw [List.take_succ_eq_append_getElem hj, List.filter_append]
  simp only [List.getD, List.getElem?_eq_getElem hj, Option.getD_some] at h
  simp [h]

set_option maxRecDepth 100000 in
set_option maxHeartbeats 4000000 in
theorem irdrop_any (A : Option Addr) (n c k : Nat) (L : List ItL) (w : World) (hA : IR w A L) (hl : L.length = n) (hn : n ≤ 1024) :
    Calls Tryd.prog 16 #[.slice A n c, vu k] w fun e w' => ∃ B d, e = .returned (.slice B (idrop L k).length d) ∧ IR w' B (idrop L k) ∧ Below w.heap.size w w' := by
  obtain ⟨ti, hti, hz0, hz1, hz2⟩ := info_parts infoI
  have HR := Lib.hid (fun j W (hj : j < n) (hb : Below w.heap.size w W) => (hA.later hb) j (by omega))
  have HY : Hid (∀ j, j < n → (L.getD j (0, [])).1 ≠ k → (L.take (j + 1)).filter (fun y => decide (y.1 ≠ k)) = (L.take j).filter (fun y => decide (y.1 ≠ k)) ++ [L.getD j (0, [])]) := Lib.hid fun j hj h => filter_take_yes _ (by omega) (decide_eq_true h)
  have HN : Hid (∀ j, j < n → ¬ (L.getD j (0, [])).1 ≠ k → (L.take (j + 1)).filter (fun y => decide (y.1 ≠ k)) = (L.take j).filter (fun y => decide (y.1 ≠ k))) := Lib.hid fun j hj h => filter_take_no _ (by omega) (decide_eq_false h)
  have HE : Hid ((L.take n).filter (fun y => decide (y.1 ≠ k)) = idrop L k) := Lib.hid (by rw [← hl, List.take_length]; rfl)
  have HC : Hid (∀ j, ((L.take j).filter (fun y => decide (y.1 ≠ k))).length ≤ j) := Lib.hid fun j => by have := List.length_filter_le (fun y : ItL => decide (y.1 ≠ k)) (L.take j); rw [List.length_take] at this; omega
  have HZ : Hid ((L.take 0).filter (fun y => decide (y.1 ≠ k)) = []) := Lib.hid rfl
  generalize idrop L k = R at *
  obtain ⟨T, hT⟩ : ∃ T : Nat → List ItL, (fun j => (L.take j).filter (fun y => decide (y.1 ≠ k))) = T := ⟨_, rfl⟩
  have hT2 : ∀ j, (L.take j).filter (fun y => decide (y.1 ≠ k)) = T j := fun j => by rw [← hT]
  simp only [hT2] at HY HN HE HC HZ
  clear hA hl hT hT2
  have HO : Hid ((w.alloc (.cells #[] 25)).ownsRow w.heap.size 25 2 (.slice (some ⟨w.heap.size, 0, none⟩) 0 0) 0 (icells (T 0))) := Lib.hid (by rw [HZ.out]; exact iown_nil (Blk.new w _ _) (Nat.le_refl _))
  have HB : Hid (Below w.heap.size w (w.alloc (.cells #[] 25))) := Lib.hid (ba (Below.refl _ _) _)
  go_enter Tryd.func16, Tryd.ntmps16
  go_upto_region 2 with fail
  generalize w.alloc (.cells #[] 25) = w1 at *
  go_wp2_with fail
  go_loopw [5, 11] (fun ov iv wr => ∃ (j m g5 c5 : Nat), j ≤ n ∧ iv = .int .i64 (j : Int) ∧ ov = .slice (some ⟨g5, 0, none⟩) m c5 ∧ Hid (m = (T j).length ∧ m ≤ j) ∧ Hid (wr.ownsRow w.heap.size 25 2 (.slice (some ⟨g5, 0, none⟩) m c5) m (icells (T j))) ∧ Hid (Below w.heap.size w wr)) (fun _ i _ => n - (intOf i).toNat)
  case atStart => exact ⟨0, 0, w.heap.size, 0, Nat.zero_le _, rfl, rfl, Lib.hid ⟨by rw [HZ.out]; rfl, Nat.le_refl _⟩, HO, HB⟩
  case round =>
    clear HB HO
    obtain ⟨j, m, g5, c5, hj, rfl, rfl, HM, HO, HB⟩ := hrel
    by_cases hlt : j < n
    · obtain ⟨g, off, rfl, c0, c1⟩ := HR.out j wr hlt HB.out
      have HYj := Lib.hid (HY.out j hlt)
      have HNj := Lib.hid (HN.out j hlt)
      generalize L.getD j (0, []) = x at *
      obtain ⟨xk, xs⟩ := x
      simp only at c0 c1 HYj HNj
      have i0 : (0 : Int) ≤ (j : Int) := by omega
      have i1 : (j : Int) < (n : Int) := by omega
      have hm : m ≤ 1024 := by have := HM.out.2; omega
      by_cases hx : xk = k
      · have HT2 := Lib.hid (HNj.out (by omega))
        subst hx
        clear HYj HNj
        have HM2 : Hid (m = (T (j + 1)).length ∧ m ≤ j + 1) := Lib.hid (by have := HM.out; rw [HT2.out]; omega)
        have HO2 : Hid ((wr.alloc (.cells #[.int .u64 (xk : Int), sv xs] 25)).ownsRow w.heap.size 25 2 (.slice (some ⟨g5, 0, none⟩) m c5) m (icells (T (j + 1)))) := Lib.hid (by rw [HT2.out]; exact HO.out.alloc _)
        have HB2 := Lib.hid (ba HB.out (.cells #[.int .u64 (xk : Int), sv xs] 25))
        go_wp2_with fail
        exact ⟨⟨j + 1, m, g5, c5, by omega, by go_num, rfl, HM2, HO2, HB2⟩, by simp [intOf]; omega⟩
      · have HT2 := Lib.hid (HYj.out hx)
        clear HYj HNj
        have hx2 : ((xk : Int) == (k : Int)) = false := by simp; omega
        have hx3 : ((xk : Int) != (k : Int)) = true := by simp [bne, hx2]
        have HM2 : Hid (m + 1 = (T (j + 1)).length ∧ m + 1 ≤ j + 1) := Lib.hid (by have := HM.out; rw [HT2.out, List.length_append]; simp; omega)
        have hO1 := HO.out.alloc (.cells #[.int .u64 (xk : Int), sv xs] 25)
        have hB1 := ba HB.out (.cells #[.int .u64 (xk : Int), sv xs] 25)
        have hownA := hO1.alloc (.cells #[.int .u64 (xk : Int), sv xs] 25)
        have hnews := World.news_of_block (heap_alloc_new (wr.alloc (.cells #[.int .u64 (xk : Int), sv xs] 25)) (.cells #[.int .u64 (xk : Int), sv xs] 25))
        have B3 := Lib.hid (ba hB1 (.cells #[.int .u64 (xk : Int), sv xs] 25))
        rw [World.size_alloc] at hnews
        clear hO1 hB1
        go_wp2_with (at_builtin; refine wpList_append_own _ rfl _ _ 22 rfl w.heap.size 25 ti _ 2 24 Tryd.underlying22 hti hz0 hz1 hz2 rfl (by decide) _ _ _ rfl hownA ⟨wr.heap.size + 1, 0, none⟩ 1 1 [.int .u64 (xk : Int), sv xs] rfl rfl hnews (by simp [Value.oneCell']) (by unfold maxLen; omega) (by omega) (by have := B3.out.size; exact this) ?_; intro v4 w5 hown5 hgrow5 _; obtain ⟨g6, c6, rfl⟩ := ownsRow_succ hown5)
        have B5 := Lib.hid (B3.out.grown hgrow5 B3.out.size (fun k e => by have := (hownA.lt k e).1; omega))
        have W5 : Hid (w5.ownsRow w.heap.size 25 2 (.slice (some ⟨g6, 0, none⟩) (m + 1) c6) (m + 1) (icells (T (j + 1)))) := Lib.hid (by rw [HT2.out, icells_more]; exact hown5)
        clear hown5 hgrow5 hnews hownA
        go_wp2_with fail
        exact ⟨⟨j + 1, m + 1, g6, c6, by omega, by go_num, rfl, HM2, W5, B5⟩, by simp [intOf]; omega⟩
    · obtain rfl : j = n := by omega
      have HM2 : Hid (R.length = m) := Lib.hid (by rw [← HE.out, HM.out.1])
      have HI : Hid (IR wr (some ⟨g5, 0, none⟩) R) := Lib.hid (by rw [← HE.out]; exact own_IR HO.out HM.out.1.symm)
      go_wp2
      go_ret
      exact ⟨some ⟨g5, 0, none⟩, c5, by rw [HM2.out]; rfl, HI.out, HB.out⟩
/-- PUT -/
theorem own_blk_far {W : World} {base : Nat} {e : TypeId} {size : Nat} {v : Value} {n : Nat} {xs : List Value} (h : W.ownsRow base e size v n xs) (g : Nat) (hg : g < base) : some g ≠ v.ownBlock := fun e => by have := (h.lt _ e.symm).1; omega

set_option maxRecDepth 100000 in
set_option maxHeartbeats 8000000 in
theorem irput_any (A : Option Addr) (n c k : Nat) (ks : List UInt8) (L : List ItL) (w : World) (hA : IR w A L) (hl : L.length = n) (hn : n ≤ 1024) :
    Calls Tryd.prog 17 #[.slice A n c, .agg #[.int .u64 (k : Int), sv ks]] w fun e w' => ∃ B d, e = .returned (.slice B (iput L (k, ks)).length d) ∧ IR w' B (iput L (k, ks)) ∧ Below w.heap.size w w' := by
  obtain ⟨ti, hti, hz0, hz1, hz2⟩ := info_parts infoI
  have HR := Lib.hid (fun j W (hj : j < n) (hb : Below w.heap.size w W) => (hA.later hb) j (by omega))
  obtain ⟨T, hT⟩ : ∃ T : Nat → List ItL, ∀ j, (L.take j).filter (fun y => decide (y.1 < k)) = T j := ⟨_, fun _ => rfl⟩
  obtain ⟨U, hU⟩ : ∃ U : Nat → List ItL, ∀ j, T n ++ [(k, ks)] ++ (L.take j).filter (fun y => decide (k < y.1)) = U j := ⟨_, fun _ => rfl⟩
  have HTY : Hid (∀ j, j < n → (L.getD j (0, [])).1 < k → T (j + 1) = T j ++ [L.getD j (0, [])]) := Lib.hid fun j hj h => by rw [← hT, ← hT]; exact filter_take_yes _ (by omega) (decide_eq_true h)
  have HTN : Hid (∀ j, j < n → ¬ (L.getD j (0, [])).1 < k → T (j + 1) = T j) := Lib.hid fun j hj h => by rw [← hT, ← hT]; exact filter_take_no _ (by omega) (decide_eq_false h)
  have HUY : Hid (∀ j, j < n → k < (L.getD j (0, [])).1 → U (j + 1) = U j ++ [L.getD j (0, [])]) := Lib.hid fun j hj h => by rw [← hU, ← hU, filter_take_yes _ (by omega) (decide_eq_true h), ← List.append_assoc]
  have HUN : Hid (∀ j, j < n → ¬ k < (L.getD j (0, [])).1 → U (j + 1) = U j) := Lib.hid fun j hj h => by rw [← hU, ← hU, filter_take_no _ (by omega) (decide_eq_false h)]
  have HE : Hid (U n = iput L (k, ks)) := Lib.hid (by rw [← hU, ← hT, ← hl, List.take_length]; rfl)
  have HTZ : Hid (T 0 = []) := Lib.hid (by rw [← hT]; rfl)
  have HUZ : Hid (U 0 = T n ++ [(k, ks)]) := Lib.hid (by rw [← hU]; simp)
  generalize iput L (k, ks) = R at *
  clear hA hl hT hU
  have HO : Hid (((w.alloc (.cells #[.int .u64 (k : Int), sv ks] 25)).alloc (.cells #[] 25)).ownsRow (w.heap.size + 1) 25 2 (.slice (some ⟨w.heap.size + 1, 0, none⟩) 0 0) 0 (icells (T 0))) := Lib.hid (by rw [HTZ.out]; exact iown_nil (Blk.newAt (by simp) _ _) (Nat.le_refl _))
  have HB : Hid (Below w.heap.size w ((w.alloc (.cells #[.int .u64 (k : Int), sv ks] 25)).alloc (.cells #[] 25))) := Lib.hid (ba (ba (Below.refl _ _) _) _)
  have HK : Hid (Blk ((w.alloc (.cells #[.int .u64 (k : Int), sv ks] 25)).alloc (.cells #[] 25)) w.heap.size 25 #[.int .u64 (k : Int), sv ks]) := Lib.hid ((Blk.new w _ _).alloc _)
  go_enter Tryd.func17, Tryd.ntmps17
  go_upto_region 2 with fail
  generalize (w.alloc (.cells #[.int .u64 (k : Int), sv ks] 25)).alloc (.cells #[] 25) = w1 at *
  go_wp2_with fail
  go_loopw [5, 13] (fun ov iv wr => ∃ (j m g5 c5 : Nat), j ≤ n ∧ iv = .int .i64 (j : Int) ∧ ov = .slice (some ⟨g5, 0, none⟩) m c5 ∧ Hid (m = (T j).length ∧ m ≤ j) ∧ Hid (wr.ownsRow (w.heap.size + 1) 25 2 (.slice (some ⟨g5, 0, none⟩) m c5) m (icells (T j))) ∧ Hid (Below w.heap.size w wr) ∧ Hid (Blk wr w.heap.size 25 #[.int .u64 (k : Int), sv ks])) (fun _ i _ => n - (intOf i).toNat)
  case atStart => exact ⟨0, 0, w.heap.size + 1, 0, Nat.zero_le _, rfl, rfl, Lib.hid ⟨by rw [HTZ.out]; rfl, Nat.le_refl _⟩, HO, HB, HK⟩
  case round =>
    clear HB HO HK
    obtain ⟨j, m, g5, c5, hj, rfl, rfl, HM, HO, HB, HK⟩ := hrel
    by_cases hlt : j < n
    · obtain ⟨g, off, rfl, c0, c1⟩ := HR.out j wr hlt HB.out
      have HYj := Lib.hid (HTY.out j hlt)
      have HNj := Lib.hid (HTN.out j hlt)
      generalize L.getD j (0, []) = x at *
      obtain ⟨xk, xs⟩ := x
      simp only at c0 c1 HYj HNj
      have i0 : (0 : Int) ≤ (j : Int) := by omega
      have i1 : (j : Int) < (n : Int) := by omega
      have hm : m ≤ 3000 := by have := HM.out.2; omega
      have hB1 := ba (Below.refl wr.heap.size wr) (.cells #[.int .u64 (xk : Int), sv xs] 25)
      have HK2 := Lib.hid (HK.out.below hB1)
      have k0 := HK2.out.cell 0
      simp only [List.getElem?_toArray, List.getElem?_cons_zero] at k0
      by_cases hx : xk < k
      · have HT2 := Lib.hid (HYj.out hx)
        clear HYj HNj
        have hx2 : (xk : Int) < (k : Int) := by omega
        have HM2 : Hid (m + 1 = (T (j + 1)).length ∧ m + 1 ≤ j + 1) := Lib.hid (by have := HM.out; rw [HT2.out, List.length_append]; simp; omega)
        have hO1 := HO.out.alloc (.cells #[.int .u64 (xk : Int), sv xs] 25)
        have hB2 := ba HB.out (.cells #[.int .u64 (xk : Int), sv xs] 25)
        have hownA := hO1.alloc (.cells #[.int .u64 (xk : Int), sv xs] 25)
        have hnews := World.news_of_block (heap_alloc_new (wr.alloc (.cells #[.int .u64 (xk : Int), sv xs] 25)) (.cells #[.int .u64 (xk : Int), sv xs] 25))
        have B3 := Lib.hid (ba hB2 (.cells #[.int .u64 (xk : Int), sv xs] 25))
        have HK3 := Lib.hid (HK2.out.alloc (.cells #[.int .u64 (xk : Int), sv xs] 25))
        have HSZ : Hid (w.heap.size + 1 ≤ wr.heap.size) := Lib.hid (by have := HK.out.lt; omega)
        rw [World.size_alloc] at hnews
        clear hO1 hB1 hB2
        go_wp2_with (at_builtin; refine wpList_append_own _ rfl _ _ 22 rfl (w.heap.size + 1) 25 ti _ 2 24 Tryd.underlying22 hti hz0 hz1 hz2 rfl (by decide) _ _ _ rfl hownA ⟨wr.heap.size + 1, 0, none⟩ 1 1 [.int .u64 (xk : Int), sv xs] rfl rfl hnews (by simp [Value.oneCell']) (by unfold maxLen; omega) (by omega) (by have := HSZ.out; simp; omega) ?_; intro v4 w5 hown5 hgrow5 _; obtain ⟨g6, c6, rfl⟩ := ownsRow_succ hown5)
        have B5 := Lib.hid (B3.out.grown hgrow5 B3.out.size (fun k e => by have := (hownA.lt k e).1; omega))
        have HK5 := Lib.hid (HK3.out.grown hgrow5 (fun e => by have := (hownA.lt _ e.symm).1; omega))
        have W5 : Hid (w5.ownsRow (w.heap.size + 1) 25 2 (.slice (some ⟨g6, 0, none⟩) (m + 1) c6) (m + 1) (icells (T (j + 1)))) := Lib.hid (by rw [HT2.out, icells_more]; exact hown5)
        clear hown5 hgrow5 hnews hownA
        go_wp2_with fail
        exact ⟨⟨j + 1, m + 1, g6, c6, by omega, by go_num, rfl, HM2, W5, B5, HK5⟩, by simp [intOf]; omega⟩
      · have HT2 := Lib.hid (HNj.out hx)
        clear HYj HNj
        have hx2 : ¬ (xk : Int) < (k : Int) := by omega
        have HM2 : Hid (m = (T (j + 1)).length ∧ m ≤ j + 1) := Lib.hid (by have := HM.out; rw [HT2.out]; omega)
        have HO2 : Hid ((wr.alloc (.cells #[.int .u64 (xk : Int), sv xs] 25)).ownsRow (w.heap.size + 1) 25 2 (.slice (some ⟨g5, 0, none⟩) m c5) m (icells (T (j + 1)))) := Lib.hid (by rw [HT2.out]; exact HO.out.alloc _)
        have HB2 := Lib.hid (ba HB.out (.cells #[.int .u64 (xk : Int), sv xs] 25))
        clear hB1
        go_wp2_with fail
        exact ⟨⟨j + 1, m, g5, c5, by omega, by go_num, rfl, HM2, HO2, HB2, HK2⟩, by simp [intOf]; omega⟩
    · obtain rfl : n = j := by omega
      have hB1 := ba (Below.refl wr.heap.size wr) (.cells #[.int .u64 (k : Int), sv ks] 25)
      have HK2 := Lib.hid (HK.out.below hB1)
      have k0 := HK.out.cell 0
      have k1 := HK.out.cell 1
      simp only [List.getElem?_toArray, List.getElem?_cons_zero, List.getElem?_cons_succ] at k0 k1
      have hownA := HO.out.alloc (.cells #[.int .u64 (k : Int), sv ks] 25)
      have hnews := World.news_of_block (heap_alloc_new wr (.cells #[.int .u64 (k : Int), sv ks] 25))
      have B3 := Lib.hid (ba HB.out (.cells #[.int .u64 (k : Int), sv ks] 25))
      have HSZ : Hid (w.heap.size + 1 ≤ wr.heap.size) := Lib.hid (by have := HK.out.lt; omega)
      have hm : m ≤ 3000 := by have := HM.out.2; omega
      clear hB1 HTY HTN hlt
      go_wp2_with (at_builtin; refine wpList_append_own _ rfl _ _ 22 rfl (w.heap.size + 1) 25 ti _ 2 24 Tryd.underlying22 hti hz0 hz1 hz2 rfl (by decide) _ _ _ rfl hownA ⟨wr.heap.size, 0, none⟩ 1 1 [.int .u64 (k : Int), sv ks] rfl rfl hnews (by simp [Value.oneCell']) (by unfold maxLen; omega) (by omega) (by have := HSZ.out; simp; omega) ?_; intro v4 w5 hown5 hgrow5 _; obtain ⟨g6, c6, rfl⟩ := ownsRow_succ hown5)
      have B5 := Lib.hid (B3.out.grown hgrow5 B3.out.size (fun k e => by have := (hownA.lt k e).1; omega))
      have HK5 := Lib.hid (HK2.out.grown hgrow5 (fun e => by have := (hownA.lt _ e.symm).1; omega))
      have W5 : Hid (w5.ownsRow (w.heap.size + 1) 25 2 (.slice (some ⟨g6, 0, none⟩) (m + 1) c6) (m + 1) (icells (U 0))) := Lib.hid (by rw [HUZ.out, icells_more]; exact hown5)
      have HM5 : Hid (m + 1 = (U 0).length ∧ m + 1 ≤ n + 1 + 0) := Lib.hid (by have := HM.out; rw [HUZ.out, List.length_append]; simp; omega)
      clear hown5 hgrow5 hnews hownA k0 k1 HK HK2 B3 HO HB HM hm HSZ
      go_wp2_with fail
      go_loopw [5, 33] (fun ov iv wr => ∃ (j m g5 c5 : Nat), j ≤ n ∧ iv = .int .i64 (j : Int) ∧ ov = .slice (some ⟨g5, 0, none⟩) m c5 ∧ Hid (m = (U j).length ∧ m ≤ n + 1 + j) ∧ Hid (wr.ownsRow (w.heap.size + 1) 25 2 (.slice (some ⟨g5, 0, none⟩) m c5) m (icells (U j))) ∧ Hid (Below w.heap.size w wr) ∧ Hid (Blk wr w.heap.size 25 #[.int .u64 (k : Int), sv ks])) (fun _ i _ => n - (intOf i).toNat)
      case atStart => exact ⟨0, m + 1, g6, c6, Nat.zero_le _, rfl, rfl, HM5, W5, B5, HK5⟩
      case round =>
        clear W5 B5 HK5 HM5
        obtain ⟨j, m, g5, c5, hj, rfl, rfl, HM, HO, HB, HK⟩ := hrel
        by_cases hlt : j < n
        · obtain ⟨g, off, rfl, c0, c1⟩ := HR.out j wr hlt HB.out
          have HYj := Lib.hid (HUY.out j hlt)
          have HNj := Lib.hid (HUN.out j hlt)
          generalize L.getD j (0, []) = x at *
          obtain ⟨xk, xs⟩ := x
          simp only at c0 c1 HYj HNj
          have i0 : (0 : Int) ≤ (j : Int) := by omega
          have i1 : (j : Int) < (n : Int) := by omega
          have hm9 : m ≤ 3000 := by have := HM.out.2; omega
          have hB1 := ba (Below.refl wr.heap.size wr) (.cells #[.int .u64 (xk : Int), sv xs] 25)
          have HK2 := Lib.hid (HK.out.below hB1)
          have k0 := HK2.out.cell 0
          simp only [List.getElem?_toArray, List.getElem?_cons_zero] at k0
          by_cases hx : k < xk
          · have HT2 := Lib.hid (HYj.out hx)
            clear HYj HNj
            have hx2 : (k : Int) < (xk : Int) := by omega
            have HM2 : Hid (m + 1 = (U (j + 1)).length ∧ m + 1 ≤ n + 1 + j + 1) := Lib.hid (by have := HM.out; rw [HT2.out, List.length_append]; simp; omega)
            have hO1 := HO.out.alloc (.cells #[.int .u64 (xk : Int), sv xs] 25)
            have hB2 := ba HB.out (.cells #[.int .u64 (xk : Int), sv xs] 25)
            have hownA := hO1.alloc (.cells #[.int .u64 (xk : Int), sv xs] 25)
            have hnews := World.news_of_block (heap_alloc_new (wr.alloc (.cells #[.int .u64 (xk : Int), sv xs] 25)) (.cells #[.int .u64 (xk : Int), sv xs] 25))
            have B3 := Lib.hid (ba hB2 (.cells #[.int .u64 (xk : Int), sv xs] 25))
            have HK3 := Lib.hid (HK2.out.alloc (.cells #[.int .u64 (xk : Int), sv xs] 25))
            have HSZ : Hid (w.heap.size + 1 ≤ wr.heap.size) := Lib.hid (by have := HK.out.lt; omega)
            rw [World.size_alloc] at hnews
            clear hO1 hB1 hB2
            go_wp2_with (at_builtin; refine wpList_append_own _ rfl _ _ 22 rfl (w.heap.size + 1) 25 ti _ 2 24 Tryd.underlying22 hti hz0 hz1 hz2 rfl (by decide) _ _ _ rfl hownA ⟨wr.heap.size + 1, 0, none⟩ 1 1 [.int .u64 (xk : Int), sv xs] rfl rfl hnews (by simp [Value.oneCell']) (by unfold maxLen; omega) (by omega) (by have := HSZ.out; simp; omega) ?_; intro v4 w5 hown5 hgrow5 _; obtain ⟨g6, c6, rfl⟩ := ownsRow_succ hown5)
            have B5 := Lib.hid (B3.out.grown hgrow5 B3.out.size (fun k e => by have := (hownA.lt k e).1; omega))
            have HK5 := Lib.hid (HK3.out.grown hgrow5 (fun e => by have := (hownA.lt _ e.symm).1; omega))
            have W5 : Hid (w5.ownsRow (w.heap.size + 1) 25 2 (.slice (some ⟨g6, 0, none⟩) (m + 1) c6) (m + 1) (icells (U (j + 1)))) := Lib.hid (by rw [HT2.out, icells_more]; exact hown5)
            clear hown5 hgrow5 hnews hownA
            go_wp2_with fail
            exact ⟨⟨j + 1, m + 1, g6, c6, by omega, by go_num, rfl, HM2, W5, B5, HK5⟩, by simp [intOf]; omega⟩
          · have HT2 := Lib.hid (HNj.out hx)
            clear HYj HNj
            have hx2 : ¬ (k : Int) < (xk : Int) := by omega
            have HM2 : Hid (m = (U (j + 1)).length ∧ m ≤ n + 1 + j + 1) := Lib.hid (by have := HM.out; rw [HT2.out]; omega)
            have HO2 : Hid ((wr.alloc (.cells #[.int .u64 (xk : Int), sv xs] 25)).ownsRow (w.heap.size + 1) 25 2 (.slice (some ⟨g5, 0, none⟩) m c5) m (icells (U (j + 1)))) := Lib.hid (by rw [HT2.out]; exact HO.out.alloc _)
            have HB2 := Lib.hid (ba HB.out (.cells #[.int .u64 (xk : Int), sv xs] 25))
            clear hB1
            go_wp2_with fail
            exact ⟨⟨j + 1, m, g5, c5, by omega, by go_num, rfl, HM2, HO2, HB2, HK2⟩, by simp [intOf]; omega⟩
        · obtain rfl : n = j := by omega
          have HM2 : Hid (R.length = m) := Lib.hid (by rw [← HE.out, HM.out.1])
          have HI : Hid (IR wr (some ⟨g5, 0, none⟩) R) := Lib.hid (by rw [← HE.out]; exact own_IR HO.out HM.out.1.symm)
          go_wp2
          go_ret
          exact ⟨some ⟨g5, 0, none⟩, c5, by rw [HM2.out]; rfl, HI.out, HB.out⟩
end Go.Proofs.YtegojdblaanclaaDoor
/- The contract of the reference's Right. -/
namespace Go.Proofs.YtegojdblaanclaaDoor
open Go.RowKit

set_option maxRecDepth 100000 in
set_option maxHeartbeats 8000000 in
theorem irright_ref (A : Option Addr) (n c : Nat) (L : List ItL) (w : World) (hA : IR w A L) (hl : L.length = n) (hc : n ≤ c) (hn : n ≤ 1024) :
    Calls Tryd.prog 11 #[.slice A n c] w fun e w' => e = .returned (.bool (decide (IRt L))) ∧ Below w.heap.size w w' := by
  have HA := Lib.hid hA
  have HV : Hid (∀ j, j < n → ¬ (L.getD j (0, [])).2.length ≤ 64 → decide (IRt L) = false) := Lib.hid fun j hj h => decide_eq_false fun hr => h (hr.2.1 j (by omega))
  have HK : Hid (∀ i j, i < j → j < n → ¬ (L.getD i (0, [])).1 < (L.getD j (0, [])).1 → decide (IRt L) = false) := Lib.hid fun i j hi hj h => decide_eq_false fun hr => h (hr.up i j hi (by omega))
  have HY : Hid ((∀ j, j < n → (L.getD j (0, [])).2.length ≤ 64) → (∀ j, j < n → ∀ i, i < j → ik L i < ik L j) → decide (IRt L) = decide (n ≤ 64)) := Lib.hid fun a b => by
    by_cases h : n ≤ 64
    · rw [decide_eq_true h]
      exact decide_eq_true ⟨by omega, fun j hj => a j (by omega), fun j hj hp => b j (by omega) (j - 1) (by omega)⟩
    · rw [decide_eq_false h]
      exact decide_eq_false fun hr => h (by have := hr.1; omega)
  have HL := Lib.hid hl
  generalize decide (IRt L) = R at HV HK HY ⊢
  clear hA hl
  go_enter Tryd.func11, Tryd.ntmps11
  go_wp2_with fail
  go_loopw [9] (fun iv wr => ∃ j : Nat, j ≤ n ∧ iv = .int .i64 (j : Int) ∧ Hid (∀ i, i < j → (L.getD i (0, [])).2.length ≤ 64) ∧ Hid (∀ t, t < j → ∀ i, i < t → ik L i < ik L t) ∧ Below w.heap.size w wr) (fun i _ => n - (intOf i).toNat)
  case atStart => exact ⟨0, Nat.zero_le _, rfl, Lib.hid (fun j hj => by omega), Lib.hid (fun j hj => by omega), Below.refl _ _⟩
  case round =>
    obtain ⟨j, hj, rfl, HJ, HJ2, hb⟩ := hrel
    by_cases hlt : j < n
    · obtain ⟨g, off, rfl, c0, c1⟩ := (HA.out.later hb) j (by rw [HL.out]; exact hlt)
      have HV1 := Lib.hid (HV.out j hlt)
      have HK1 := Lib.hid (fun i (hi : i < j) => HK.out i j hi hlt)
      have HJ1 : Hid ((L.getD j (0, [])).2.length ≤ 64 → ∀ i, i < j + 1 → (L.getD i (0, [])).2.length ≤ 64) := Lib.hid fun h i hi => by
        by_cases e : i = j
        · rw [e]; exact h
        · exact HJ.out i (by omega)
      have HJ3 : Hid ((∀ i, i < j → (L.getD i (0, [])).1 < (L.getD j (0, [])).1) → ∀ t, t < j + 1 → ∀ i, i < t → ik L i < ik L t) := Lib.hid fun h t ht i hi => by
        by_cases e : t = j
        · subst e; exact h i hi
        · exact HJ2.out t (by omega) i hi
      have hcut := fun W => icut_run (some ⟨g, off, none⟩) n c j (by omega) W
      generalize L.getD j (0, []) = x at *
      obtain ⟨xk, xs⟩ := x
      simp only at c0 c1 HV1 HK1 HJ1 HJ3
      have i0 : (0 : Int) ≤ (j : Int) := by omega
      have i1 : (j : Int) < (n : Int) := by omega
      have hz := isize xs
      by_cases hx : xs.length ≤ 64
      · have hx2 : ¬ (64 : Int) < (xs.length : Int) := by omega
        have HJ4 := Lib.hid (HJ1.out hx)
        obtain ⟨z, hz9⟩ : ∃ z, wr.heap.size = z := ⟨_, rfl⟩
        have HB0 := Lib.hid (ba hb (.cells #[.int .u64 (xk : Int), sv xs] 25))
        have HX0 : Hid (Blk (wr.alloc (.cells #[.int .u64 (xk : Int), sv xs] 25)) z 25 #[.int .u64 (xk : Int), sv xs]) := Lib.hid (Blk.newAt hz9 _ _)
        clear HV1 HJ1 HV HY
        go_wp2_with fail
        go_loopw [22] (fun tv wi => ∃ t : Nat, t ≤ j ∧ tv = .int .i64 (t : Int) ∧ Hid (∀ i, i < t → (L.getD i (0, [])).1 < xk) ∧ Hid (Blk wi z 25 #[.int .u64 (xk : Int), sv xs]) ∧ Hid (Below w.heap.size w wi)) (fun i _ => j - (intOf i).toNat)
        case atStart => exact ⟨0, Nat.zero_le _, rfl, Lib.hid (fun i hi => by omega), HX0, HB0⟩
        case round =>
          clear HX0 HB0 c0 c1 hb
          obtain ⟨t, ht, rfl, HT, HX, HB⟩ := hrel
          by_cases hlt2 : t < j
          · obtain ⟨g', off', e, d0, d1⟩ := (HA.out.later HB.out) t (by rw [HL.out]; omega)
            obtain ⟨rfl, rfl⟩ : g = g' ∧ off = off' := by injection e with e; injection e with e1 e2; exact ⟨e1, e2⟩
            have HK2 := Lib.hid (HK1.out t hlt2)
            have HT1 : Hid ((L.getD t (0, [])).1 < xk → ∀ i, i < t + 1 → (L.getD i (0, [])).1 < xk) := Lib.hid fun h i hi => by
              by_cases e : i = t
              · rw [e]; exact h
              · exact HT.out i (by omega)
            generalize L.getD t (0, []) = y at *
            obtain ⟨yk, ys⟩ := y
            simp only at d0 d1 HK2 HT1
            have t0 : (0 : Int) ≤ (t : Int) := by omega
            have t1 : (t : Int) < (j : Int) := by omega
            have HX2 := Lib.hid (HX.out.alloc (.cells #[.int .u64 (yk : Int), sv ys] 25))
            have HB2 := Lib.hid (ba HB.out (.cells #[.int .u64 (yk : Int), sv ys] 25))
            have k0 := HX2.out.cell 0
            simp only [List.getElem?_toArray, List.getElem?_cons_zero] at k0
            by_cases hy : yk < xk
            · have HT2 := Lib.hid (HT1.out hy)
              have hy2 : ¬ (xk : Int) ≤ (yk : Int) := by omega
              go_wp2_with fail
              exact ⟨⟨t + 1, by omega, by go_num, HT2, HX2, HB2⟩, by simp [intOf]; omega⟩
            · have HR := Lib.hid (HK2.out hy)
              have hy2 : (xk : Int) ≤ (yk : Int) := by omega
              go_wp2_with fail
              go_ret
              rw [HR.out]
              exact ⟨rfl, HB2.out⟩
          · obtain rfl : t = j := by omega
            have HJ5 := Lib.hid (HJ3.out HT.out)
            have hb2 := HB.out
            go_wp2_with fail
            exact ⟨⟨t + 1, by omega, by go_num, HJ4, HJ5, hb2⟩, by simp [intOf]; omega⟩
      · have hx2 : (64 : Int) < (xs.length : Int) := by omega
        have HR := Lib.hid (HV1.out hx)
        clear HJ1 HJ3 HK1 HV HY HK
        go_wp2_with fail
        go_ret
        rw [HR.out]
        exact ⟨rfl, ba hb _⟩
    · obtain rfl : j = n := by omega
      have HR := Lib.hid (HY.out HJ.out HJ2.out)
      have hd : decide ((j : Int) ≤ 64) = decide (j ≤ 64) := by by_cases h : j ≤ 64 <;> simp [h] <;> omega
      go_wp2
      go_ret
      rw [HR.out]
      exact ⟨rfl, hb⟩
end Go.Proofs.YtegojdblaanclaaDoor
