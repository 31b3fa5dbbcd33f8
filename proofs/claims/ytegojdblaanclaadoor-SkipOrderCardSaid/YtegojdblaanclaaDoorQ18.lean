/- Texts of this seat, one behind the other: ILawONs, ILawONe. -/
import Derived.Deep.RegionHeld3
import Derived.Test.YtegojdblaanclaaDoorQ16
/- The walk of SkipOrder. -/
namespace Go.Proofs.YtegojdblaanclaaDoor
open Go.RowKit

set_option maxRecDepth 100000 in
set_option maxHeartbeats 32000000 in
theorem ilawO_Ns (A : Option Addr) (c xk yk : Nat) (xs ys : List UInt8) (L0 : List ItL) (w : World) (hA0 : IR w A L0) (hc0 : L0.length ≤ c) (hx0 : ∀ x ∈ L0, x.1 < 18446744073709551616) (hm1 : xk < 18446744073709551616) (hT : VTab w) (hE : iputE (L0.take (min L0.length 60)) (xk, xs) = 0) (hh : ¬ ihas (L0.take (min L0.length 60)) xk) (hq : ileq (L0.take (min L0.length 60)) xk = 0) (hy : ¬ ys.length ≤ 64) :
    Calls Tryd.prog 6 #[.slice A L0.length c, .agg #[.int .u64 (xk : Int), sv xs], .agg #[.int .u64 (yk : Int), sv ys]] w fun e w' => e = .returned (.bool true) ∧ Below w.heap.size w w' := by
  obtain ⟨M, hM⟩ : ∃ M, L0.length = M := ⟨_, rfl⟩
  rw [hM] at hc0 ⊢
  obtain ⟨n, hn⟩ : ∃ n, min M 60 = n := ⟨_, rfl⟩
  have hl : (L0.take n).length = n := by rw [List.length_take]; omega
  have hA : IR w A (L0.take n) := hA0.take n
  have hx9 : ∀ x ∈ L0.take n, x.1 < 18446744073709551616 := fun x hx => hx0 x (List.mem_of_mem_take hx)
  have h4 : min (M : Int) 60 = (n : Int) := by omega
  have hsl := icut_run A M c n (by omega)
  have hn60 : n ≤ 60 := by omega
  have hc : n ≤ c := by omega
  have HAL := Lib.hid (fun W (hb : Below w.heap.size w W) => ialive_any W (hT.later hb))
  have B0 := Lib.hid (ba (ba (Below.refl w.heap.size w) (.cells #[.int .u64 (xk : Int), sv xs] 25)) (.cells #[.int .u64 (yk : Int), sv ys] 25))
  have X0 : Hid (Blk ((w.alloc (.cells #[.int .u64 (xk : Int), sv xs] 25)).alloc (.cells #[.int .u64 (yk : Int), sv ys] 25)) w.heap.size 25 #[.int .u64 (xk : Int), sv xs]) := Lib.hid ((Blk.new w _ _).alloc _)
  have Y0 : Hid (Blk ((w.alloc (.cells #[.int .u64 (xk : Int), sv xs] 25)).alloc (.cells #[.int .u64 (yk : Int), sv ys] 25)) (w.heap.size + 1) 25 #[.int .u64 (yk : Int), sv ys]) := Lib.hid (Blk.newAt (by simp) _ _)
  rw [hM, hn] at hE hh hq
  clear hA0 hx0 hM hn
  generalize L0.take n = L at *
  obtain ⟨hr, hv, hs, hP9⟩ := iput_zero hE
  have hP : IRt (iput L (xk, xs)) := irt_put hr hv hs
  have hPl : (iput L (xk, xs)).length ≤ 61 := by have := iput_len (L := L) (xk, xs); omega
  have hPx : ∀ x ∈ iput L (xk, xs), x.1 < 18446744073709551616 := fun x hx => by
    rcases iput_mem.1 hx with rfl | ⟨h, _⟩
    · exact hm1
    · exact hx9 x h
  have hPh : ihas (iput L (xk, xs)) xk := ⟨(xk, xs), iput_mem.2 (.inl rfl), rfl⟩
  have hD : IRt (idrop (iput L (xk, xs)) xk) := irt_drop hP
  have hDl : (idrop (iput L (xk, xs)) xk).length ≤ 61 := by have := List.length_filter_le (fun y : ItL => decide (y.1 ≠ xk)) (iput L (xk, xs)); rw [idrop]; omega
  obtain ⟨r1, hr1, hr2, hr3⟩ := iput_at (x := (xk, xs)) hr.up
  obtain ⟨f1, _, f3⟩ := ifind_yes [107] hP (k := xk) (by have h : ileq (iput L (xk, xs)) xk = r1 + 1 := hr3; omega)
  have f4 : ifindA (iput L (xk, xs)) xk = r1 := by rw [f3]; have h : ileq (iput L (xk, xs)) xk = r1 + 1 := hr3; omega
  obtain ⟨g1, g2⟩ := idropE_yes hP hPh
  obtain ⟨q1, q2⟩ := idropE_none hD (idrop_not (iput L (xk, xs)) xk)
  have HPX := Lib.hid (fun W (hb : Below w.heap.size w W) => iput_any A n c xk xs L W (hA.later hb) hl hc (by omega))
  rw [hE, hP9] at HPX
  have HFP := Lib.hid (fun C d W (hb : Below w.heap.size w W) (h1 : IR W C (iput L (xk, xs))) (h2 : (iput L (xk, xs)).length ≤ d) => ifind_at [107] C (iput L (xk, xs)).length d xk (iput L (xk, xs)) W (by simp) h1 rfl h2 hPx (by omega) (hT.later hb))
  rw [f1, f4] at HFP
  have HDP := Lib.hid (fun C d W (h1 : IR W C (iput L (xk, xs))) (h2 : (iput L (xk, xs)).length ≤ d) => idrop_any C (iput L (xk, xs)).length d xk (iput L (xk, xs)) W h1 rfl h2 (by omega))
  rw [g1, g2] at HDP
  have HDD := Lib.hid (fun C d W (h1 : IR W C (idrop (iput L (xk, xs)) xk)) (h2 : (idrop (iput L (xk, xs)) xk).length ≤ d) => idrop_any C (idrop (iput L (xk, xs)) xk).length d xk (idrop (iput L (xk, xs)) xk) W h1 rfl h2 (by omega))
  rw [q1, q2] at HDD
  have HRP := Lib.hid (fun C d W (h1 : IR W C (iput L (xk, xs))) => iright_any C (iput L (xk, xs)).length d (iput L (xk, xs)) W h1 rfl (by omega))
  rw [decide_eq_true hP] at HRP
  have HFL := Lib.hid (fun W (hb : Below w.heap.size w W) => ifind_at [107] A n c xk L W (by simp) (hA.later hb) hl hc hx9 (by omega) (hT.later hb))
  have HRD := Lib.hid (fun j W (hj : j < n) (hb : Below w.heap.size w W) => (hA.later hb) j (by omega))
  have HPY := Lib.hid (fun C d W (h1 : IR W C (iput L (xk, xs))) (h2 : (iput L (xk, xs)).length ≤ d) => iput_any C (iput L (xk, xs)).length d yk ys (iput L (xk, xs)) W h1 rfl h2 (by omega))
  have HLY := Lib.hid (fun W (hb : Below w.heap.size w W) => iput_any A n c yk ys L W (hA.later hb) hl hc (by omega))
  obtain ⟨u1, _, u3⟩ := ifind_none [107] hr hq
  rw [u1, u3] at HFL
  have hDL : idrop (iput L (xk, xs)) xk = L := idrop_put hr.up hh
  have HSD := Lib.hid (fun C d W (hb : Below w.heap.size w W) (h1 : IR W C (idrop (iput L (xk, xs)) xk)) => isame_yes C A d c (idrop (iput L (xk, xs)) xk).length n (idrop (iput L (xk, xs)) xk) L W h1 (hA.later hb) hDL rfl hl (by omega))
  obtain ⟨z1, z2⟩ := iputE_size (x := (yk, ys)) hP hy
  obtain ⟨z3, z4⟩ := iputE_size (x := (yk, ys)) hr hy
  rw [z1, z2] at HPY
  rw [z3, z4] at HLY
  have hr2' : (iput L (xk, xs)).getD r1 (0, []) = (xk, xs) := hr2
  clear hA hl hx9 hT hE hm1 hr hv hs hP9 hP hPl hPx hPh hD hDl hr2 hr3 f1 f3 f4 g1 g2 q1 q2 hh u1 u3 hq hDL z1 z2 z3 z4 hy
  generalize idrop (iput L (xk, xs)) xk = D at *
  generalize iput L (xk, xs) = P at *
  go_enter Tryd.func6, Tryd.ntmps6
  have k0 := X0.out.cell 0
  have k1 := X0.out.cell 1
  simp only [List.getElem?_toArray, List.getElem?_cons_zero, List.getElem?_cons_succ] at k0 k1
  go_wp2_with fail
  refine (HPX.out _ B0.out).mono ?_
  rintro e w1 ⟨C1, d1, rfl, hd1, hI1, hb⟩
  have B1 := Lib.hid (bt B0.out hb)
  have X1 := Lib.hid (X0.out.below hb)
  have Y1 := Lib.hid (Y0.out.below hb)
  clear hb B0 X0 Y0 k0 k1
  have HI1 := Lib.hid hI1
  clear hI1 HPX hsl h4
  have k0 := X1.out.cell 0
  have k1 := X1.out.cell 1
  simp only [List.getElem?_toArray, List.getElem?_cons_zero, List.getElem?_cons_succ] at k0 k1
  go_wp2_with fail
  refine (HFP.out C1 d1 _ B1.out HI1.out hd1).mono ?_
  rintro e w2 ⟨F1, m1, e1, rfl, hb⟩
  have B2 := Lib.hid (bt B1.out hb)
  have X2 := Lib.hid (X1.out.below hb)
  have Y2 := Lib.hid (Y1.out.below hb)
  replace HI1 := Lib.hid (HI1.out.later hb)
  clear hb B1 X1 Y1 k0 k1
  have k0 := X2.out.cell 0
  have k1 := X2.out.cell 1
  simp only [List.getElem?_toArray, List.getElem?_cons_zero, List.getElem?_cons_succ] at k0 k1
  go_wp2_with fail
  refine (HDP.out C1 d1 _ HI1.out hd1).mono ?_
  rintro e w3 ⟨C2, d2, rfl, hd2, hI2, hb⟩
  have B3 := Lib.hid (bt B2.out hb)
  have X3 := Lib.hid (X2.out.below hb)
  have Y3 := Lib.hid (Y2.out.below hb)
  replace HI1 := Lib.hid (HI1.out.later hb)
  clear hb B2 X2 Y2 k0 k1
  have HI2 := Lib.hid hI2
  clear hI2 HFP HDP
  have k0 := X3.out.cell 0
  have k1 := X3.out.cell 1
  simp only [List.getElem?_toArray, List.getElem?_cons_zero, List.getElem?_cons_succ] at k0 k1
  go_wp2_with fail
  refine (HDD.out C2 d2 _ HI2.out hd2).mono ?_
  rintro e w4 ⟨C3, d3, rfl, _, _, hb⟩
  have B4 := Lib.hid (bt B3.out hb)
  have X4 := Lib.hid (X3.out.below hb)
  have Y4 := Lib.hid (Y3.out.below hb)
  replace HI1 := Lib.hid (HI1.out.later hb)
  replace HI2 := Lib.hid (HI2.out.later hb)
  clear hb B3 X3 Y3 k0 k1
  clear HDD
  obtain ⟨ga, oa, e9, p0, p1⟩ := HI1.out r1 hr1
  subst e9
  rw [hr2'] at p0 p1
  have b1 : ¬ (P.length : Int) ≤ (r1 : Int) := by omega
  have b2 : decide (P.length ≤ r1) = false := by simp; omega
  have b3 : (0 : Int) ≤ (r1 : Int) := by omega
  have b4 : (r1 : Int) < (P.length : Int) := by omega
  have k0 := X4.out.cell 0
  have k1 := X4.out.cell 1
  simp only [List.getElem?_toArray, List.getElem?_cons_zero, List.getElem?_cons_succ] at k0 k1
  have HXX := Lib.hid (fun W (hb : Below w4.heap.size w4 W) => (X4.out.below hb))
  have HPP := Lib.hid (fun W (hb : Below w4.heap.size w4 W) => (⟨cell_later hb p0, cell_later hb p1⟩ : W.cell? ⟨ga, oa + r1 * 2, none⟩ = some (vu xk) ∧ W.cell? ⟨ga, oa + r1 * 2 + 1, none⟩ = some (sv xs)))
  have hS0 : (w4.cell? ⟨w.heap.size, 0, none⟩ = some (.int .u64 (xk : Int)) ∧ w4.cell? ⟨w.heap.size, 1, none⟩ = some (sv xs)) ∧ (w4.cell? ⟨ga, oa + r1 * 2, none⟩ = some (vu xk) ∧ w4.cell? ⟨ga, oa + r1 * 2 + 1, none⟩ = some (sv xs)) ∧ Below w4.heap.size w4 w4 := ⟨⟨k0, k1⟩, ⟨p0, p1⟩, Below.refl _ _⟩
  clear p0 p1 k0 k1
  go_wp2_with fail
  go_region_held3 (fun W => (W.cell? ⟨w.heap.size, 0, none⟩ = some (.int .u64 (xk : Int)) ∧ W.cell? ⟨w.heap.size, 1, none⟩ = some (sv xs)) ∧ (W.cell? ⟨ga, oa + r1 * 2, none⟩ = some (vu xk) ∧ W.cell? ⟨ga, oa + r1 * 2 + 1, none⟩ = some (sv xs)) ∧ Below w4.heap.size w4 W) (first | assumption | exact ⟨hS0.1, hS0.2.1, (Below.refl _ _).drew⟩) (first
    | (go_at_call 10; (with_reducible refine (HRP.out _ _ _ (HI1.out.later (Below.refl w4.heap.size w4).drew)).mono ?_); rintro e wp ⟨rfl, hbp⟩; have hBp := bt (Below.refl w4.heap.size w4).drew hbp; have hSp : ((wp.cell? ⟨w.heap.size, 0, none⟩ = some (.int .u64 (xk : Int)) ∧ wp.cell? ⟨w.heap.size, 1, none⟩ = some (sv xs)) ∧ (wp.cell? ⟨ga, oa + r1 * 2, none⟩ = some (vu xk) ∧ wp.cell? ⟨ga, oa + r1 * 2 + 1, none⟩ = some (sv xs)) ∧ Below w4.heap.size w4 wp) := ⟨⟨(HXX.out _ hBp).cell 0, (HXX.out _ hBp).cell 1⟩, HPP.out _ hBp, hBp⟩)
    | (go_at_call 14; (with_reducible refine (HAL.out _ (bt B4.out hBp)).mono ?_); rintro e wq ⟨rfl, hbq⟩; have hBq := bt hBp hbq; have hSq : ((wq.cell? ⟨w.heap.size, 0, none⟩ = some (.int .u64 (xk : Int)) ∧ wq.cell? ⟨w.heap.size, 1, none⟩ = some (sv xs)) ∧ (wq.cell? ⟨ga, oa + r1 * 2, none⟩ = some (vu xk) ∧ wq.cell? ⟨ga, oa + r1 * 2 + 1, none⟩ = some (sv xs)) ∧ Below w4.heap.size w4 wq) := ⟨⟨(HXX.out _ hBq).cell 0, (HXX.out _ hBq).cell 1⟩, HPP.out _ hBq, hBq⟩))
  have hb := hBq
  have B5 := Lib.hid (bt B4.out hb)
  have X5 := Lib.hid (X4.out.below hb)
  have Y5 := Lib.hid (Y4.out.below hb)
  replace HI1 := Lib.hid (HI1.out.later hb)
  replace HI2 := Lib.hid (HI2.out.later hb)
  clear hb B4 X4 Y4
  clear hBp hBq hSp hSq hbp hbq HXX HPP hS0 HRP HAL b1 b2 b3 b4 hr2' hr1
  have k0 := X5.out.cell 0
  have k1 := X5.out.cell 1
  simp only [List.getElem?_toArray, List.getElem?_cons_zero, List.getElem?_cons_succ] at k0 k1
  go_wp2_with fail
  refine (HFL.out _ B5.out).mono ?_
  rintro e w6 ⟨F4, m4, e4, rfl, hb⟩
  have B6 := Lib.hid (bt B5.out hb)
  have X6 := Lib.hid (X5.out.below hb)
  have Y6 := Lib.hid (Y5.out.below hb)
  replace HI1 := Lib.hid (HI1.out.later hb)
  replace HI2 := Lib.hid (HI2.out.later hb)
  clear hb B5 X5 Y5 k0 k1
  clear HFL
  have k0 := X6.out.cell 0
  have k1 := X6.out.cell 1
  simp only [List.getElem?_toArray, List.getElem?_cons_zero, List.getElem?_cons_succ] at k0 k1
  go_wp2_with fail
  refine wp_region_held_drew (S := fun _ => True) (by kernel_rfl) trivial (fun hHeld => ?_)
  refine wpAnyH_take (i := 0) (oi := ⟨some 112, _, _, _, _, _⟩) (v := ?_) rfl (by kernel_rfl) (by kernel_rfl) (by kernel_rfl) (fun _ _ _ h => h) (Or.inl ⟨by rfl, ?_⟩) (by assumption) ?_
  rotate_left
  · (intro w9 hSw; (try dsimp only at hSw); go_simp; try with_reducible rfl)
  try simp only [Act.put, List.setIfInBounds_toArray, List.set_cons_zero, List.set_cons_succ]
  refine wpAnyH_take (i := 1) (oi := ⟨some 113, _, _, _, _, _⟩) (v := ?_) rfl (by kernel_rfl) (by kernel_rfl) (by kernel_rfl) (fun _ _ _ h => h) (Or.inl ⟨by rfl, ?_⟩) (by assumption) ?_
  rotate_left
  · (intro w9 hSw; (try dsimp only at hSw); go_simp; try with_reducible rfl)
  try simp only [Act.put, List.setIfInBounds_toArray, List.set_cons_zero, List.set_cons_succ]
  refine wpAnyH_take (i := 2) (oi := ⟨some 114, _, _, _, _, _⟩) (v := ?_) rfl (by kernel_rfl) (by kernel_rfl) (by kernel_rfl) (fun _ _ _ h => h) (Or.inl ⟨by rfl, ?_⟩) (by assumption) ?_
  rotate_left
  · (intro w9 hSw; (try dsimp only at hSw); go_simp; try with_reducible rfl)
  try simp only [Act.put, List.setIfInBounds_toArray, List.set_cons_zero, List.set_cons_succ]
  refine wpAnyH_take (i := 3) (oi := ⟨some 115, _, _, _, _, _⟩) (v := undef) rfl (by kernel_rfl) (by kernel_rfl) (by kernel_rfl) (fun _ _ _ h => h) (Or.inr ⟨by rfl, rfl⟩) (by assumption) ?_
  try simp only [Act.put, List.setIfInBounds_toArray, List.set_cons_zero, List.set_cons_succ]
  refine wpAnyH_take (i := 4) (oi := ⟨some 116, _, _, _, _, _⟩) (v := undef) rfl (by kernel_rfl) (by kernel_rfl) (by kernel_rfl) (fun _ _ _ h => h) (Or.inr ⟨by rfl, rfl⟩) (by assumption) ?_
  try simp only [Act.put, List.setIfInBounds_toArray, List.set_cons_zero, List.set_cons_succ]
  refine wpAnyH_take (i := 5) (oi := ⟨some 117, _, _, _, _, _⟩) (v := undef) rfl (by kernel_rfl) (by kernel_rfl) (by kernel_rfl) (fun _ _ _ h => h) (Or.inr ⟨by rfl, rfl⟩) (by assumption) ?_
  try simp only [Act.put, List.setIfInBounds_toArray, List.set_cons_zero, List.set_cons_succ]
  refine wpAnyH_take (i := 6) (oi := ⟨some 118, _, _, _, _, _⟩) (v := undef) rfl (by kernel_rfl) (by kernel_rfl) (by kernel_rfl) (fun _ _ _ h => h) (Or.inr ⟨by rfl, rfl⟩) (by assumption) ?_
  try simp only [Act.put, List.setIfInBounds_toArray, List.set_cons_zero, List.set_cons_succ]
  refine wpAnyH_take (i := 7) (oi := ⟨some 119, _, _, _, _, _⟩) (v := undef) rfl (by kernel_rfl) (by kernel_rfl) (by kernel_rfl) (fun _ _ _ h => h) (Or.inr ⟨by rfl, rfl⟩) (by assumption) ?_
  try simp only [Act.put, List.setIfInBounds_toArray, List.set_cons_zero, List.set_cons_succ]
  refine wpAnyH_take (i := 8) (oi := ⟨some 120, _, _, _, _, _⟩) (v := undef) rfl (by kernel_rfl) (by kernel_rfl) (by kernel_rfl) (fun _ _ _ h => h) (Or.inr ⟨by rfl, rfl⟩) (by assumption) ?_
  try simp only [Act.put, List.setIfInBounds_toArray, List.set_cons_zero, List.set_cons_succ]
  refine wpAnyH_take (i := 9) (oi := ⟨some 121, _, _, _, _, _⟩) (v := undef) rfl (by kernel_rfl) (by kernel_rfl) (by kernel_rfl) (fun _ _ _ h => h) (Or.inr ⟨by rfl, rfl⟩) (by assumption) ?_
  try simp only [Act.put, List.setIfInBounds_toArray, List.set_cons_zero, List.set_cons_succ]
  refine wpAnyH_take (i := 10) (oi := ⟨some 122, _, _, _, _, _⟩) (v := undef) rfl (by kernel_rfl) (by kernel_rfl) (by kernel_rfl) (fun _ _ _ h => h) (Or.inr ⟨by rfl, rfl⟩) (by assumption) ?_
  try simp only [Act.put, List.setIfInBounds_toArray, List.set_cons_zero, List.set_cons_succ]
  refine wpAnyH_take (i := 11) (oi := ⟨some 123, _, _, _, _, _⟩) (v := ?_) rfl (by kernel_rfl) (by kernel_rfl) (by kernel_rfl) (fun _ _ _ h => h) (Or.inl ⟨by rfl, ?_⟩) (by assumption) ?_
  rotate_left
  · (intro w9 hSw; (try dsimp only at hSw); go_simp; try with_reducible rfl)
  try simp only [Act.put, List.setIfInBounds_toArray, List.set_cons_zero, List.set_cons_succ]
  refine wpAnyH_take (i := 12) (oi := ⟨some 124, _, _, _, _, _⟩) (v := ?_) rfl (by kernel_rfl) (by kernel_rfl) (by kernel_rfl) (fun _ _ _ h => h) (Or.inl ⟨by rfl, ?_⟩) (by assumption) ?_
  rotate_left
  · (intro w9 hSw; (try dsimp only at hSw); go_simp; try with_reducible rfl)
  try simp only [Act.put, List.setIfInBounds_toArray, List.set_cons_zero, List.set_cons_succ]
  refine wpAnyH_take (i := 13) (oi := ⟨some 125, _, _, _, _, _⟩) (v := ?_) rfl (by kernel_rfl) (by kernel_rfl) (by kernel_rfl) (fun _ _ _ h => h) (Or.inl ⟨by rfl, ?_⟩) (by assumption) ?_
  rotate_left
  · (intro w9 hSw; (try dsimp only at hSw); go_simp; try with_reducible rfl)
  try simp only [Act.put, List.setIfInBounds_toArray, List.set_cons_zero, List.set_cons_succ]
  refine wpAnyH_take (i := 14) (oi := ⟨some 126, _, _, _, _, _⟩) (v := ?_) rfl (by kernel_rfl) (by kernel_rfl) (by kernel_rfl) (fun _ _ _ h => h) (Or.inl ⟨by rfl, ?_⟩) (by assumption) ?_
  rotate_left
  · (intro w9 hSw; (try dsimp only at hSw); go_simp; try with_reducible rfl)
  try simp only [Act.put, List.setIfInBounds_toArray, List.set_cons_zero, List.set_cons_succ]
  refine wpAnyH_ready (rs := [15]) (by kernel_rfl) (by simp) ?_
  refine AllReadyH.cons (o := ⟨some 127, _, _, _, _, _⟩) rfl (fun K9 hK9 => ?_) AllReadyH.nil
  go_simp; go_at_call 13
  refine (HSD.out _ _ _ (bt B6.out (Below.refl w6.heap.size w6).drew) (HI2.out.later (Below.refl w6.heap.size w6).drew)).mono ?_
  rintro e wp ⟨rfl, hbp⟩
  refine hK9.out _ _ ?_ (fun hHeld => ?_)
  · trivial
  clear hK9 K9
  try simp only [Act.put, List.setIfInBounds_toArray, List.set_cons_zero, List.set_cons_succ]
  refine wpAnyH_take (i := 16) (oi := ⟨some 128, _, _, _, _, _⟩) (v := ?_) rfl (by kernel_rfl) (by kernel_rfl) (by kernel_rfl) (fun _ _ _ h => h) (Or.inl ⟨by rfl, ?_⟩) (by assumption) ?_
  rotate_left
  · (intro w9 hSw; (try dsimp only at hSw); go_simp; try with_reducible rfl)
  try simp only [Act.put, List.setIfInBounds_toArray, List.set_cons_zero, List.set_cons_succ]
  refine wpAnyH_take (i := 17) (oi := ⟨some 129, _, _, _, _, _⟩) (v := ?_) rfl (by kernel_rfl) (by kernel_rfl) (by kernel_rfl) (fun _ _ _ h => h) (Or.inl ⟨by rfl, ?_⟩) (by assumption) ?_
  rotate_left
  · (intro w9 hSw; (try dsimp only at hSw); go_simp; try with_reducible rfl)
  try simp only [Act.put, List.setIfInBounds_toArray, List.set_cons_zero, List.set_cons_succ]
  refine wpAnyH_done (by kernel_rfl) ?_ _
  have hBp := bt (Below.refl w6.heap.size w6).drew hbp
  have hb := hBp
  have B7 := Lib.hid (bt B6.out hb)
  have X7 := Lib.hid (X6.out.below hb)
  have Y7 := Lib.hid (Y6.out.below hb)
  replace HI1 := Lib.hid (HI1.out.later hb)
  clear hb B6 X6 Y6
  clear hBp hbp HI2 HSD k0 k1
  clear HRD
  have l0 := Y7.out.cell 0
  have l1 := Y7.out.cell 1
  simp only [List.getElem?_toArray, List.getElem?_cons_zero, List.getElem?_cons_succ] at l0 l1
  go_wp2_with fail
  refine (HPY.out _ _ _ HI1.out hd1).mono ?_
  rintro e w8 ⟨C5, d5, rfl, hd5, hI5, hb⟩
  have B8 := Lib.hid (bt B7.out hb)
  have X8 := Lib.hid (X7.out.below hb)
  have Y8 := Lib.hid (Y7.out.below hb)
  clear hb B7 X7 Y7 l0 l1
  have HI5 := Lib.hid hI5
  clear hI5 HPY HI1
  have l0 := Y8.out.cell 0
  have l1 := Y8.out.cell 1
  simp only [List.getElem?_toArray, List.getElem?_cons_zero, List.getElem?_cons_succ] at l0 l1
  go_wp2_with fail
  refine (HLY.out _ B8.out).mono ?_
  rintro e w9 ⟨C6, d6, rfl, hd6, hI6, hb⟩
  have B9 := Lib.hid (bt B8.out hb)
  have X9 := Lib.hid (X8.out.below hb)
  have Y9 := Lib.hid (Y8.out.below hb)
  replace HI5 := Lib.hid (HI5.out.later hb)
  clear hb B8 X8 Y8 l0 l1
  have HI6 := Lib.hid hI6
  clear hI6 HLY
  go_wp2
  go_ret
  exact ⟨rfl, B9.out⟩

end Go.Proofs.YtegojdblaanclaaDoor
/- The walk of SkipOrder. -/
namespace Go.Proofs.YtegojdblaanclaaDoor
open Go.RowKit

set_option maxRecDepth 100000 in
set_option maxHeartbeats 32000000 in
theorem ilawO_Ne (A : Option Addr) (c xk yk : Nat) (xs ys : List UInt8) (L0 : List ItL) (w : World) (hA0 : IR w A L0) (hc0 : L0.length ≤ c) (hx0 : ∀ x ∈ L0, x.1 < 18446744073709551616) (hm1 : xk < 18446744073709551616) (hT : VTab w) (hE : iputE (L0.take (min L0.length 60)) (xk, xs) = 0) (hh : ¬ ihas (L0.take (min L0.length 60)) xk) (hq : ileq (L0.take (min L0.length 60)) xk = 0) (hy : ys.length ≤ 64) (hxy : xk = yk) :
    Calls Tryd.prog 6 #[.slice A L0.length c, .agg #[.int .u64 (xk : Int), sv xs], .agg #[.int .u64 (yk : Int), sv ys]] w fun e w' => e = .returned (.bool true) ∧ Below w.heap.size w w' := by
  obtain ⟨M, hM⟩ : ∃ M, L0.length = M := ⟨_, rfl⟩
  rw [hM] at hc0 ⊢
  obtain ⟨n, hn⟩ : ∃ n, min M 60 = n := ⟨_, rfl⟩
  have hl : (L0.take n).length = n := by rw [List.length_take]; omega
  have hA : IR w A (L0.take n) := hA0.take n
  have hx9 : ∀ x ∈ L0.take n, x.1 < 18446744073709551616 := fun x hx => hx0 x (List.mem_of_mem_take hx)
  have h4 : min (M : Int) 60 = (n : Int) := by omega
  have hsl := icut_run A M c n (by omega)
  have hn60 : n ≤ 60 := by omega
  have hc : n ≤ c := by omega
  have HAL := Lib.hid (fun W (hb : Below w.heap.size w W) => ialive_any W (hT.later hb))
  have B0 := Lib.hid (ba (ba (Below.refl w.heap.size w) (.cells #[.int .u64 (xk : Int), sv xs] 25)) (.cells #[.int .u64 (yk : Int), sv ys] 25))
  have X0 : Hid (Blk ((w.alloc (.cells #[.int .u64 (xk : Int), sv xs] 25)).alloc (.cells #[.int .u64 (yk : Int), sv ys] 25)) w.heap.size 25 #[.int .u64 (xk : Int), sv xs]) := Lib.hid ((Blk.new w _ _).alloc _)
  have Y0 : Hid (Blk ((w.alloc (.cells #[.int .u64 (xk : Int), sv xs] 25)).alloc (.cells #[.int .u64 (yk : Int), sv ys] 25)) (w.heap.size + 1) 25 #[.int .u64 (yk : Int), sv ys]) := Lib.hid (Blk.newAt (by simp) _ _)
  rw [hM, hn] at hE hh hq
  clear hA0 hx0 hM hn
  generalize L0.take n = L at *
  obtain ⟨hr, hv, hs, hP9⟩ := iput_zero hE
  have hP : IRt (iput L (xk, xs)) := irt_put hr hv hs
  have hPl : (iput L (xk, xs)).length ≤ 61 := by have := iput_len (L := L) (xk, xs); omega
  have hPx : ∀ x ∈ iput L (xk, xs), x.1 < 18446744073709551616 := fun x hx => by
    rcases iput_mem.1 hx with rfl | ⟨h, _⟩
    · exact hm1
    · exact hx9 x h
  have hPh : ihas (iput L (xk, xs)) xk := ⟨(xk, xs), iput_mem.2 (.inl rfl), rfl⟩
  have hD : IRt (idrop (iput L (xk, xs)) xk) := irt_drop hP
  have hDl : (idrop (iput L (xk, xs)) xk).length ≤ 61 := by have := List.length_filter_le (fun y : ItL => decide (y.1 ≠ xk)) (iput L (xk, xs)); rw [idrop]; omega
  obtain ⟨r1, hr1, hr2, hr3⟩ := iput_at (x := (xk, xs)) hr.up
  obtain ⟨f1, _, f3⟩ := ifind_yes [107] hP (k := xk) (by have h : ileq (iput L (xk, xs)) xk = r1 + 1 := hr3; omega)
  have f4 : ifindA (iput L (xk, xs)) xk = r1 := by rw [f3]; have h : ileq (iput L (xk, xs)) xk = r1 + 1 := hr3; omega
  obtain ⟨g1, g2⟩ := idropE_yes hP hPh
  obtain ⟨q1, q2⟩ := idropE_none hD (idrop_not (iput L (xk, xs)) xk)
  have HPX := Lib.hid (fun W (hb : Below w.heap.size w W) => iput_any A n c xk xs L W (hA.later hb) hl hc (by omega))
  rw [hE, hP9] at HPX
  have HFP := Lib.hid (fun C d W (hb : Below w.heap.size w W) (h1 : IR W C (iput L (xk, xs))) (h2 : (iput L (xk, xs)).length ≤ d) => ifind_at [107] C (iput L (xk, xs)).length d xk (iput L (xk, xs)) W (by simp) h1 rfl h2 hPx (by omega) (hT.later hb))
  rw [f1, f4] at HFP
  have HDP := Lib.hid (fun C d W (h1 : IR W C (iput L (xk, xs))) (h2 : (iput L (xk, xs)).length ≤ d) => idrop_any C (iput L (xk, xs)).length d xk (iput L (xk, xs)) W h1 rfl h2 (by omega))
  rw [g1, g2] at HDP
  have HDD := Lib.hid (fun C d W (h1 : IR W C (idrop (iput L (xk, xs)) xk)) (h2 : (idrop (iput L (xk, xs)) xk).length ≤ d) => idrop_any C (idrop (iput L (xk, xs)) xk).length d xk (idrop (iput L (xk, xs)) xk) W h1 rfl h2 (by omega))
  rw [q1, q2] at HDD
  have HRP := Lib.hid (fun C d W (h1 : IR W C (iput L (xk, xs))) => iright_any C (iput L (xk, xs)).length d (iput L (xk, xs)) W h1 rfl (by omega))
  rw [decide_eq_true hP] at HRP
  have HFL := Lib.hid (fun W (hb : Below w.heap.size w W) => ifind_at [107] A n c xk L W (by simp) (hA.later hb) hl hc hx9 (by omega) (hT.later hb))
  have HRD := Lib.hid (fun j W (hj : j < n) (hb : Below w.heap.size w W) => (hA.later hb) j (by omega))
  have HPY := Lib.hid (fun C d W (h1 : IR W C (iput L (xk, xs))) (h2 : (iput L (xk, xs)).length ≤ d) => iput_any C (iput L (xk, xs)).length d yk ys (iput L (xk, xs)) W h1 rfl h2 (by omega))
  have HLY := Lib.hid (fun W (hb : Below w.heap.size w W) => iput_any A n c yk ys L W (hA.later hb) hl hc (by omega))
  obtain ⟨u1, _, u3⟩ := ifind_none [107] hr hq
  rw [u1, u3] at HFL
  have hDL : idrop (iput L (xk, xs)) xk = L := idrop_put hr.up hh
  have HSD := Lib.hid (fun C d W (hb : Below w.heap.size w W) (h1 : IR W C (idrop (iput L (xk, xs)) xk)) => isame_yes C A d c (idrop (iput L (xk, xs)) xk).length n (idrop (iput L (xk, xs)) xk) L W h1 (hA.later hb) hDL rfl hl (by omega))
  obtain ⟨z1, z2⟩ := iputE_yes (x := (yk, ys)) hP hy (.inr (by omega))
  obtain ⟨z3, z4⟩ := iputE_yes (x := (yk, ys)) hr hy (.inr (by omega))
  have hR : IRt (iput L (yk, ys)) := irt_put hr hy (.inr (by omega))
  have hRl : (iput L (yk, ys)).length ≤ 61 := by have := iput_len (L := L) (yk, ys); omega
  rw [z1, z2] at HPY
  rw [z3, z4] at HLY
  have HRX := Lib.hid (fun C d W (h1 : IR W C (iput L (yk, ys))) (h2 : (iput L (yk, ys)).length ≤ d) => iput_any C (iput L (yk, ys)).length d xk xs (iput L (yk, ys)) W h1 rfl h2 (by omega))
  obtain ⟨z5, z6⟩ := iputE_yes (x := (xk, xs)) hR hv (.inr (by omega))
  rw [z5, z6] at HRX
  have hr2' : (iput L (xk, xs)).getD r1 (0, []) = (xk, xs) := hr2
  clear hA hl hx9 hT hE hm1 hr hv hs hP9 hP hPl hPx hPh hD hDl hr2 hr3 f1 f3 f4 g1 g2 q1 q2 hh u1 u3 hq hDL z1 z2 z3 z4 hy hR hRl z5 z6
  generalize idrop (iput L (xk, xs)) xk = D at *
  generalize iput (iput L (xk, xs)) (yk, ys) = Q at *
  generalize iput (iput L (yk, ys)) (xk, xs) = S at *
  generalize iput L (yk, ys) = R at *
  generalize iput L (xk, xs) = P at *
  subst hxy
  go_enter Tryd.func6, Tryd.ntmps6
  have k0 := X0.out.cell 0
  have k1 := X0.out.cell 1
  simp only [List.getElem?_toArray, List.getElem?_cons_zero, List.getElem?_cons_succ] at k0 k1
  go_wp2_with fail
  refine (HPX.out _ B0.out).mono ?_
  rintro e w1 ⟨C1, d1, rfl, hd1, hI1, hb⟩
  have B1 := Lib.hid (bt B0.out hb)
  have X1 := Lib.hid (X0.out.below hb)
  have Y1 := Lib.hid (Y0.out.below hb)
  clear hb B0 X0 Y0 k0 k1
  have HI1 := Lib.hid hI1
  clear hI1 HPX hsl h4
  have k0 := X1.out.cell 0
  have k1 := X1.out.cell 1
  simp only [List.getElem?_toArray, List.getElem?_cons_zero, List.getElem?_cons_succ] at k0 k1
  go_wp2_with fail
  refine (HFP.out C1 d1 _ B1.out HI1.out hd1).mono ?_
  rintro e w2 ⟨F1, m1, e1, rfl, hb⟩
  have B2 := Lib.hid (bt B1.out hb)
  have X2 := Lib.hid (X1.out.below hb)
  have Y2 := Lib.hid (Y1.out.below hb)
  replace HI1 := Lib.hid (HI1.out.later hb)
  clear hb B1 X1 Y1 k0 k1
  have k0 := X2.out.cell 0
  have k1 := X2.out.cell 1
  simp only [List.getElem?_toArray, List.getElem?_cons_zero, List.getElem?_cons_succ] at k0 k1
  go_wp2_with fail
  refine (HDP.out C1 d1 _ HI1.out hd1).mono ?_
  rintro e w3 ⟨C2, d2, rfl, hd2, hI2, hb⟩
  have B3 := Lib.hid (bt B2.out hb)
  have X3 := Lib.hid (X2.out.below hb)
  have Y3 := Lib.hid (Y2.out.below hb)
  replace HI1 := Lib.hid (HI1.out.later hb)
  clear hb B2 X2 Y2 k0 k1
  have HI2 := Lib.hid hI2
  clear hI2 HFP HDP
  have k0 := X3.out.cell 0
  have k1 := X3.out.cell 1
  simp only [List.getElem?_toArray, List.getElem?_cons_zero, List.getElem?_cons_succ] at k0 k1
  go_wp2_with fail
  refine (HDD.out C2 d2 _ HI2.out hd2).mono ?_
  rintro e w4 ⟨C3, d3, rfl, _, _, hb⟩
  have B4 := Lib.hid (bt B3.out hb)
  have X4 := Lib.hid (X3.out.below hb)
  have Y4 := Lib.hid (Y3.out.below hb)
  replace HI1 := Lib.hid (HI1.out.later hb)
  replace HI2 := Lib.hid (HI2.out.later hb)
  clear hb B3 X3 Y3 k0 k1
  clear HDD
  obtain ⟨ga, oa, e9, p0, p1⟩ := HI1.out r1 hr1
  subst e9
  rw [hr2'] at p0 p1
  have b1 : ¬ (P.length : Int) ≤ (r1 : Int) := by omega
  have b2 : decide (P.length ≤ r1) = false := by simp; omega
  have b3 : (0 : Int) ≤ (r1 : Int) := by omega
  have b4 : (r1 : Int) < (P.length : Int) := by omega
  have k0 := X4.out.cell 0
  have k1 := X4.out.cell 1
  simp only [List.getElem?_toArray, List.getElem?_cons_zero, List.getElem?_cons_succ] at k0 k1
  have HXX := Lib.hid (fun W (hb : Below w4.heap.size w4 W) => (X4.out.below hb))
  have HPP := Lib.hid (fun W (hb : Below w4.heap.size w4 W) => (⟨cell_later hb p0, cell_later hb p1⟩ : W.cell? ⟨ga, oa + r1 * 2, none⟩ = some (vu xk) ∧ W.cell? ⟨ga, oa + r1 * 2 + 1, none⟩ = some (sv xs)))
  have hS0 : (w4.cell? ⟨w.heap.size, 0, none⟩ = some (.int .u64 (xk : Int)) ∧ w4.cell? ⟨w.heap.size, 1, none⟩ = some (sv xs)) ∧ (w4.cell? ⟨ga, oa + r1 * 2, none⟩ = some (vu xk) ∧ w4.cell? ⟨ga, oa + r1 * 2 + 1, none⟩ = some (sv xs)) ∧ Below w4.heap.size w4 w4 := ⟨⟨k0, k1⟩, ⟨p0, p1⟩, Below.refl _ _⟩
  clear p0 p1 k0 k1
  go_wp2_with fail
  go_region_held3 (fun W => (W.cell? ⟨w.heap.size, 0, none⟩ = some (.int .u64 (xk : Int)) ∧ W.cell? ⟨w.heap.size, 1, none⟩ = some (sv xs)) ∧ (W.cell? ⟨ga, oa + r1 * 2, none⟩ = some (vu xk) ∧ W.cell? ⟨ga, oa + r1 * 2 + 1, none⟩ = some (sv xs)) ∧ Below w4.heap.size w4 W) (first | assumption | exact ⟨hS0.1, hS0.2.1, (Below.refl _ _).drew⟩) (first
    | (go_at_call 10; (with_reducible refine (HRP.out _ _ _ (HI1.out.later (Below.refl w4.heap.size w4).drew)).mono ?_); rintro e wp ⟨rfl, hbp⟩; have hBp := bt (Below.refl w4.heap.size w4).drew hbp; have hSp : ((wp.cell? ⟨w.heap.size, 0, none⟩ = some (.int .u64 (xk : Int)) ∧ wp.cell? ⟨w.heap.size, 1, none⟩ = some (sv xs)) ∧ (wp.cell? ⟨ga, oa + r1 * 2, none⟩ = some (vu xk) ∧ wp.cell? ⟨ga, oa + r1 * 2 + 1, none⟩ = some (sv xs)) ∧ Below w4.heap.size w4 wp) := ⟨⟨(HXX.out _ hBp).cell 0, (HXX.out _ hBp).cell 1⟩, HPP.out _ hBp, hBp⟩)
    | (go_at_call 14; (with_reducible refine (HAL.out _ (bt B4.out hBp)).mono ?_); rintro e wq ⟨rfl, hbq⟩; have hBq := bt hBp hbq; have hSq : ((wq.cell? ⟨w.heap.size, 0, none⟩ = some (.int .u64 (xk : Int)) ∧ wq.cell? ⟨w.heap.size, 1, none⟩ = some (sv xs)) ∧ (wq.cell? ⟨ga, oa + r1 * 2, none⟩ = some (vu xk) ∧ wq.cell? ⟨ga, oa + r1 * 2 + 1, none⟩ = some (sv xs)) ∧ Below w4.heap.size w4 wq) := ⟨⟨(HXX.out _ hBq).cell 0, (HXX.out _ hBq).cell 1⟩, HPP.out _ hBq, hBq⟩))
  have hb := hBq
  have B5 := Lib.hid (bt B4.out hb)
  have X5 := Lib.hid (X4.out.below hb)
  have Y5 := Lib.hid (Y4.out.below hb)
  replace HI1 := Lib.hid (HI1.out.later hb)
  replace HI2 := Lib.hid (HI2.out.later hb)
  clear hb B4 X4 Y4
  clear hBp hBq hSp hSq hbp hbq HXX HPP hS0 HRP HAL b1 b2 b3 b4 hr2' hr1
  have k0 := X5.out.cell 0
  have k1 := X5.out.cell 1
  simp only [List.getElem?_toArray, List.getElem?_cons_zero, List.getElem?_cons_succ] at k0 k1
  go_wp2_with fail
  refine (HFL.out _ B5.out).mono ?_
  rintro e w6 ⟨F4, m4, e4, rfl, hb⟩
  have B6 := Lib.hid (bt B5.out hb)
  have X6 := Lib.hid (X5.out.below hb)
  have Y6 := Lib.hid (Y5.out.below hb)
  replace HI1 := Lib.hid (HI1.out.later hb)
  replace HI2 := Lib.hid (HI2.out.later hb)
  clear hb B5 X5 Y5 k0 k1
  clear HFL
  have k0 := X6.out.cell 0
  have k1 := X6.out.cell 1
  simp only [List.getElem?_toArray, List.getElem?_cons_zero, List.getElem?_cons_succ] at k0 k1
  go_wp2_with fail
  refine wp_region_held_drew (S := fun _ => True) (by kernel_rfl) trivial (fun hHeld => ?_)
  refine wpAnyH_take (i := 0) (oi := ⟨some 112, _, _, _, _, _⟩) (v := ?_) rfl (by kernel_rfl) (by kernel_rfl) (by kernel_rfl) (fun _ _ _ h => h) (Or.inl ⟨by rfl, ?_⟩) (by assumption) ?_
  rotate_left
  · (intro w9 hSw; (try dsimp only at hSw); go_simp; try with_reducible rfl)
  try simp only [Act.put, List.setIfInBounds_toArray, List.set_cons_zero, List.set_cons_succ]
  refine wpAnyH_take (i := 1) (oi := ⟨some 113, _, _, _, _, _⟩) (v := ?_) rfl (by kernel_rfl) (by kernel_rfl) (by kernel_rfl) (fun _ _ _ h => h) (Or.inl ⟨by rfl, ?_⟩) (by assumption) ?_
  rotate_left
  · (intro w9 hSw; (try dsimp only at hSw); go_simp; try with_reducible rfl)
  try simp only [Act.put, List.setIfInBounds_toArray, List.set_cons_zero, List.set_cons_succ]
  refine wpAnyH_take (i := 2) (oi := ⟨some 114, _, _, _, _, _⟩) (v := ?_) rfl (by kernel_rfl) (by kernel_rfl) (by kernel_rfl) (fun _ _ _ h => h) (Or.inl ⟨by rfl, ?_⟩) (by assumption) ?_
  rotate_left
  · (intro w9 hSw; (try dsimp only at hSw); go_simp; try with_reducible rfl)
  try simp only [Act.put, List.setIfInBounds_toArray, List.set_cons_zero, List.set_cons_succ]
  refine wpAnyH_take (i := 3) (oi := ⟨some 115, _, _, _, _, _⟩) (v := undef) rfl (by kernel_rfl) (by kernel_rfl) (by kernel_rfl) (fun _ _ _ h => h) (Or.inr ⟨by rfl, rfl⟩) (by assumption) ?_
  try simp only [Act.put, List.setIfInBounds_toArray, List.set_cons_zero, List.set_cons_succ]
  refine wpAnyH_take (i := 4) (oi := ⟨some 116, _, _, _, _, _⟩) (v := undef) rfl (by kernel_rfl) (by kernel_rfl) (by kernel_rfl) (fun _ _ _ h => h) (Or.inr ⟨by rfl, rfl⟩) (by assumption) ?_
  try simp only [Act.put, List.setIfInBounds_toArray, List.set_cons_zero, List.set_cons_succ]
  refine wpAnyH_take (i := 5) (oi := ⟨some 117, _, _, _, _, _⟩) (v := undef) rfl (by kernel_rfl) (by kernel_rfl) (by kernel_rfl) (fun _ _ _ h => h) (Or.inr ⟨by rfl, rfl⟩) (by assumption) ?_
  try simp only [Act.put, List.setIfInBounds_toArray, List.set_cons_zero, List.set_cons_succ]
  refine wpAnyH_take (i := 6) (oi := ⟨some 118, _, _, _, _, _⟩) (v := undef) rfl (by kernel_rfl) (by kernel_rfl) (by kernel_rfl) (fun _ _ _ h => h) (Or.inr ⟨by rfl, rfl⟩) (by assumption) ?_
  try simp only [Act.put, List.setIfInBounds_toArray, List.set_cons_zero, List.set_cons_succ]
  refine wpAnyH_take (i := 7) (oi := ⟨some 119, _, _, _, _, _⟩) (v := undef) rfl (by kernel_rfl) (by kernel_rfl) (by kernel_rfl) (fun _ _ _ h => h) (Or.inr ⟨by rfl, rfl⟩) (by assumption) ?_
  try simp only [Act.put, List.setIfInBounds_toArray, List.set_cons_zero, List.set_cons_succ]
  refine wpAnyH_take (i := 8) (oi := ⟨some 120, _, _, _, _, _⟩) (v := undef) rfl (by kernel_rfl) (by kernel_rfl) (by kernel_rfl) (fun _ _ _ h => h) (Or.inr ⟨by rfl, rfl⟩) (by assumption) ?_
  try simp only [Act.put, List.setIfInBounds_toArray, List.set_cons_zero, List.set_cons_succ]
  refine wpAnyH_take (i := 9) (oi := ⟨some 121, _, _, _, _, _⟩) (v := undef) rfl (by kernel_rfl) (by kernel_rfl) (by kernel_rfl) (fun _ _ _ h => h) (Or.inr ⟨by rfl, rfl⟩) (by assumption) ?_
  try simp only [Act.put, List.setIfInBounds_toArray, List.set_cons_zero, List.set_cons_succ]
  refine wpAnyH_take (i := 10) (oi := ⟨some 122, _, _, _, _, _⟩) (v := undef) rfl (by kernel_rfl) (by kernel_rfl) (by kernel_rfl) (fun _ _ _ h => h) (Or.inr ⟨by rfl, rfl⟩) (by assumption) ?_
  try simp only [Act.put, List.setIfInBounds_toArray, List.set_cons_zero, List.set_cons_succ]
  refine wpAnyH_take (i := 11) (oi := ⟨some 123, _, _, _, _, _⟩) (v := ?_) rfl (by kernel_rfl) (by kernel_rfl) (by kernel_rfl) (fun _ _ _ h => h) (Or.inl ⟨by rfl, ?_⟩) (by assumption) ?_
  rotate_left
  · (intro w9 hSw; (try dsimp only at hSw); go_simp; try with_reducible rfl)
  try simp only [Act.put, List.setIfInBounds_toArray, List.set_cons_zero, List.set_cons_succ]
  refine wpAnyH_take (i := 12) (oi := ⟨some 124, _, _, _, _, _⟩) (v := ?_) rfl (by kernel_rfl) (by kernel_rfl) (by kernel_rfl) (fun _ _ _ h => h) (Or.inl ⟨by rfl, ?_⟩) (by assumption) ?_
  rotate_left
  · (intro w9 hSw; (try dsimp only at hSw); go_simp; try with_reducible rfl)
  try simp only [Act.put, List.setIfInBounds_toArray, List.set_cons_zero, List.set_cons_succ]
  refine wpAnyH_take (i := 13) (oi := ⟨some 125, _, _, _, _, _⟩) (v := ?_) rfl (by kernel_rfl) (by kernel_rfl) (by kernel_rfl) (fun _ _ _ h => h) (Or.inl ⟨by rfl, ?_⟩) (by assumption) ?_
  rotate_left
  · (intro w9 hSw; (try dsimp only at hSw); go_simp; try with_reducible rfl)
  try simp only [Act.put, List.setIfInBounds_toArray, List.set_cons_zero, List.set_cons_succ]
  refine wpAnyH_take (i := 14) (oi := ⟨some 126, _, _, _, _, _⟩) (v := ?_) rfl (by kernel_rfl) (by kernel_rfl) (by kernel_rfl) (fun _ _ _ h => h) (Or.inl ⟨by rfl, ?_⟩) (by assumption) ?_
  rotate_left
  · (intro w9 hSw; (try dsimp only at hSw); go_simp; try with_reducible rfl)
  try simp only [Act.put, List.setIfInBounds_toArray, List.set_cons_zero, List.set_cons_succ]
  refine wpAnyH_ready (rs := [15]) (by kernel_rfl) (by simp) ?_
  refine AllReadyH.cons (o := ⟨some 127, _, _, _, _, _⟩) rfl (fun K9 hK9 => ?_) AllReadyH.nil
  go_simp; go_at_call 13
  refine (HSD.out _ _ _ (bt B6.out (Below.refl w6.heap.size w6).drew) (HI2.out.later (Below.refl w6.heap.size w6).drew)).mono ?_
  rintro e wp ⟨rfl, hbp⟩
  refine hK9.out _ _ ?_ (fun hHeld => ?_)
  · trivial
  clear hK9 K9
  try simp only [Act.put, List.setIfInBounds_toArray, List.set_cons_zero, List.set_cons_succ]
  refine wpAnyH_take (i := 16) (oi := ⟨some 128, _, _, _, _, _⟩) (v := ?_) rfl (by kernel_rfl) (by kernel_rfl) (by kernel_rfl) (fun _ _ _ h => h) (Or.inl ⟨by rfl, ?_⟩) (by assumption) ?_
  rotate_left
  · (intro w9 hSw; (try dsimp only at hSw); go_simp; try with_reducible rfl)
  try simp only [Act.put, List.setIfInBounds_toArray, List.set_cons_zero, List.set_cons_succ]
  refine wpAnyH_take (i := 17) (oi := ⟨some 129, _, _, _, _, _⟩) (v := ?_) rfl (by kernel_rfl) (by kernel_rfl) (by kernel_rfl) (fun _ _ _ h => h) (Or.inl ⟨by rfl, ?_⟩) (by assumption) ?_
  rotate_left
  · (intro w9 hSw; (try dsimp only at hSw); go_simp; try with_reducible rfl)
  try simp only [Act.put, List.setIfInBounds_toArray, List.set_cons_zero, List.set_cons_succ]
  refine wpAnyH_done (by kernel_rfl) ?_ _
  have hBp := bt (Below.refl w6.heap.size w6).drew hbp
  have hb := hBp
  have B7 := Lib.hid (bt B6.out hb)
  have X7 := Lib.hid (X6.out.below hb)
  have Y7 := Lib.hid (Y6.out.below hb)
  replace HI1 := Lib.hid (HI1.out.later hb)
  clear hb B6 X6 Y6
  clear hBp hbp HI2 HSD k0 k1
  clear HRD
  have l0 := Y7.out.cell 0
  have l1 := Y7.out.cell 1
  simp only [List.getElem?_toArray, List.getElem?_cons_zero, List.getElem?_cons_succ] at l0 l1
  go_wp2_with fail
  refine (HPY.out _ _ _ HI1.out hd1).mono ?_
  rintro e w8 ⟨C5, d5, rfl, hd5, hI5, hb⟩
  have B8 := Lib.hid (bt B7.out hb)
  have X8 := Lib.hid (X7.out.below hb)
  have Y8 := Lib.hid (Y7.out.below hb)
  clear hb B7 X7 Y7 l0 l1
  have HI5 := Lib.hid hI5
  clear hI5 HPY HI1
  have l0 := Y8.out.cell 0
  have l1 := Y8.out.cell 1
  simp only [List.getElem?_toArray, List.getElem?_cons_zero, List.getElem?_cons_succ] at l0 l1
  go_wp2_with fail
  refine (HLY.out _ B8.out).mono ?_
  rintro e w9 ⟨C6, d6, rfl, hd6, hI6, hb⟩
  have B9 := Lib.hid (bt B8.out hb)
  have X9 := Lib.hid (X8.out.below hb)
  have Y9 := Lib.hid (Y8.out.below hb)
  replace HI5 := Lib.hid (HI5.out.later hb)
  clear hb B8 X8 Y8 l0 l1
  have HI6 := Lib.hid hI6
  clear hI6 HLY
  have k0 := X9.out.cell 0
  have k1 := X9.out.cell 1
  simp only [List.getElem?_toArray, List.getElem?_cons_zero, List.getElem?_cons_succ] at k0 k1
  go_wp2_with fail
  refine (HRX.out _ _ _ HI6.out hd6).mono ?_
  rintro e w10 ⟨C7, d7, rfl, _, hI7, hb⟩
  have B10 := Lib.hid (bt B9.out hb)
  have X10 := Lib.hid (X9.out.below hb)
  have Y10 := Lib.hid (Y9.out.below hb)
  replace HI5 := Lib.hid (HI5.out.later hb)
  clear hb B9 X9 Y9 k0 k1
  have HI7 := Lib.hid hI7
  clear hI7 HRX HI6
  have k0 := X10.out.cell 0
  have k1 := X10.out.cell 1
  simp only [List.getElem?_toArray, List.getElem?_cons_zero, List.getElem?_cons_succ] at k0 k1
  have l0 := Y10.out.cell 0
  have l1 := Y10.out.cell 1
  simp only [List.getElem?_toArray, List.getElem?_cons_zero, List.getElem?_cons_succ] at l0 l1
  go_wp2
  go_ret
  exact ⟨rfl, B10.out⟩

end Go.Proofs.YtegojdblaanclaaDoor
