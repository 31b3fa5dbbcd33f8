/- The contract of a word's scrambled: the first word of a round. -/
import Derived.Test.YtodolffolbkaaaaAScrA
namespace Go.Proofs.Ytodolffolbkaaaa
open Go.RowKit

set_option maxRecDepth 100000 in
set_option maxHeartbeats 1000000 in
theorem scr_turn (a b c d : UInt8) (i own n gb : Nat) (w : World) (hx : Blk w gb 5 bxs) (hz : ((i : Int) % (own : Int) == 0) = true) (hq : (i : Int) / (own : Int) = ((n + 1 : Nat) : Int)) (hn : (n : Int) ≤ 1000) (ho : 0 < own) (hi : (i : Int) ≤ 1000) (ho2 : (own : Int) ≤ 1000) :
    Calls Try.prog 53 #[.agg #[uv a, uv b, uv c, uv d], .int .i64 (i : Int), .int .i64 (own : Int), .slice (some ⟨gb, 0, none⟩) 256 256] w fun e w' => e = .returned (.agg #[uv (box8 b ^^^ pw8 n), uv (box8 c), uv (box8 d), uv (box8 a)]) ∧ Below w.heap.size w w' := by
  have HX := Lib.hid hx
  have HT := Lib.hid (turned_any a b c d)
  have HC := Lib.hid (boxed_ex b c d a gb)
  have HP := Lib.hid (fun W => pow2_any n W hn)
  generalize box8 a = d' at HC ⊢
  generalize box8 b = a' at HC ⊢
  generalize box8 c = b' at HC ⊢
  generalize box8 d = c' at HC ⊢
  generalize pw8 n = p at HP ⊢
  have hxr := xor_byte a' p
  obtain ⟨x, hx'⟩ : ∃ x, a' ^^^ p = x := ⟨_, rfl⟩
  rw [hx'] at hxr ⊢
  have hon : ¬ own = 0 := by omega
  have hn1 : ((n + 1 : Nat) : Int) - 1 = (n : Int) := by omega
  obtain ⟨m, hm⟩ : ∃ m, n + 1 = m := ⟨_, rfl⟩
  rw [hm] at hq hn1
  have HM := Lib.hid hm
  have HWM : Hid (IntKind.i64.wrap (m : Int) = (m : Int) ∧ IntKind.i64.wrap (n : Int) = (n : Int)) := Lib.hid (by constructor <;> (rw [IntKind.wrap_i64]; omega))
  clear hx' hx hm
  go_enter Try.func53, Try.ntmps53
  go_wp2_with fail
  refine (HT.out _).mono ?_
  rintro e w0 ⟨rfl, hb0⟩
  have z0 := hb0.size
  have G0 := ((Blk.new w 43 #[uv a, uv b, uv c, uv d]).alloc (.cells #[.int .u8 0, .int .u8 0, .int .u8 0, .int .u8 0] 43)).below hb0
  have R0 := (Blk.newAt (w := w.alloc (.cells #[uv a, uv b, uv c, uv d] 43)) (g := w.heap.size + 1) (by simp) 43 #[.int .u8 0, .int .u8 0, .int .u8 0, .int .u8 0]).below hb0
  have hB0 : Below w.heap.size w w0 := bt (ba (ba (Below.refl _ _) _) _) hb0
  have HG0 := Lib.hid G0
  have HR0 := Lib.hid R0
  clear G0 R0 hb0 z0
  go_wp2_with fail
  refine (HC.out _ (HX.out.below hB0)).mono ?_
  rintro e w1 ⟨rfl, hb⟩
  have G := Lib.hid (HG0.out.below hb)
  have R := Lib.hid (HR0.out.below hb)
  have hb1 : Below w.heap.size w w1 := bt hB0 hb
  clear hb hB0 HG0 HR0 HX HC HT
  have HONE := Lib.hid (uvs_one [a', b', c', d'])
  have HONE2 := Lib.hid (uvs_one [x, b', c', d'])
  have HG2 := Lib.hid (G.out.whole ([a', b', c', d'].map uv) (by simp))
  have HR2 := Lib.hid (R.out.far_ (k := w.heap.size + 1) (g := w.heap.size) (by omega) 0 ([a', b', c', d'].map uv))
  simp only []
  go_upto_region 3 with (refine wpList_store_mid rfl _ _ _ rfl _ _ ([a', b', c', d'].map uv).toArray rfl rfl (G.out.there (by simp)) (by kernel_rfl) (all_oneCell_toArray HONE.out) ?_)
  generalize hw2 : World.setCells w1 w.heap.size 0 _ = w2
  rw [hw2] at HG2 HR2
  have hb2 : Below w.heap.size w w2 := by rw [← hw2]; exact bw hb1 (Nat.le_refl _) _ _
  clear hw2 G R hb1
  have c0 := HG2.out.cell 0
  have f0 := HG2.out.frozen 0
  simp only [List.map_cons, List.getElem?_toArray, List.getElem?_cons_zero] at c0
  go_wp2_with fail
  refine wp_region_held_drew (S := fun _ => True) (by kernel_rfl) trivial (fun hHeld => ?_)
  have c0' : w2.drew.cell? ⟨w.heap.size, 0, none⟩ = some (uv a') := c0
  have f0' : w2.drew.frozen? ⟨w.heap.size, 0, none⟩ = false := f0
  clear c0 f0
  refine wpAnyH_take (i := 0) (oi := ⟨some 18, _, _, _, _, _⟩) (v := ?_) rfl (by kernel_rfl) (by kernel_rfl) (by kernel_rfl) (fun _ _ _ h => h) (Or.inl ⟨by rfl, ?_⟩) (by assumption) ?_
  rotate_left
  · (intro w9 hSw; (try dsimp only at hSw); go_simp; try with_reducible rfl)
  try simp only [Act.put, List.setIfInBounds_toArray, List.set_cons_zero, List.set_cons_succ]
  refine wpAnyH_take (i := 2) (oi := ⟨some 20, _, _, _, _, _⟩) (v := ?_) rfl (by kernel_rfl) (by kernel_rfl) (by kernel_rfl) (fun _ _ _ h => h) (Or.inl ⟨by rfl, ?_⟩) (by assumption) ?_
  rotate_left
  · (intro w9 hSw; (try dsimp only at hSw); go_simp; try with_reducible rfl)
  try simp only [Act.put, List.setIfInBounds_toArray, List.set_cons_zero, List.set_cons_succ]
  refine wpAnyH_take (i := 3) (oi := ⟨some 21, _, _, _, _, _⟩) (v := ?_) rfl (by kernel_rfl) (by kernel_rfl) (by kernel_rfl) (fun _ _ _ h => h) (Or.inl ⟨by rfl, ?_⟩) (by assumption) ?_
  rotate_left
  · (intro w9 hSw; (try dsimp only at hSw); go_simp; try with_reducible rfl)
  try simp only [Act.put, List.setIfInBounds_toArray, List.set_cons_zero, List.set_cons_succ]
  refine wpAnyH_take (i := 4) (oi := ⟨some 22, _, _, _, _, _⟩) (v := .int .i64 (m : Int)) rfl (by kernel_rfl) (by kernel_rfl) (by kernel_rfl) (fun _ _ _ h => h) (Or.inl ⟨by rfl, ?_⟩) (by assumption) ?_
  · (intro w9 hSw; (try dsimp only at hSw); go_simp; (try rw [hq]); rw [HWM.out.1])
  try simp only [Act.put, List.setIfInBounds_toArray, List.set_cons_zero, List.set_cons_succ]
  refine wpAnyH_take (i := 5) (oi := ⟨some 23, _, _, _, _, _⟩) (v := .int .i64 (n : Int)) rfl (by kernel_rfl) (by kernel_rfl) (by kernel_rfl) (fun _ _ _ h => h) (Or.inl ⟨by rfl, ?_⟩) (by assumption) ?_
  · (intro w9 hSw; (try dsimp only at hSw); go_simp; (try rw [hn1]); rw [HWM.out.2])
  try simp only [Act.put, List.setIfInBounds_toArray, List.set_cons_zero, List.set_cons_succ]
  refine wpAnyH_ready (rs := [1, 6]) (by kernel_rfl) (by simp) ?_
  refine AllReadyH.cons (o := ⟨some 19, _, _, _, _, _⟩) rfl (fun K9 hK9 => ?_) ?_
  · skip
    go_simp
    refine hK9.out _ _ ?_ (fun hHeld => ?_)
    · trivial
    clear hK9 K9
    try simp only [Act.put, List.setIfInBounds_toArray, List.set_cons_zero, List.set_cons_succ]
    refine wpAnyH_ready (rs := [6]) (by kernel_rfl) (by simp) ?_
    refine AllReadyH.cons (o := ⟨some 24, _, _, _, _, _⟩) rfl (fun K9 hK9 => ?_) AllReadyH.nil
    go_simp
    go_at_call 55
    refine (HP.out _).mono ?_
    rintro e x6 ⟨rfl, rfl⟩
    go_wp2_with fail
    refine hK9.out _ _ ?_ (fun hHeld => ?_)
    · trivial
    clear hK9 K9
    try simp only [Act.put, List.setIfInBounds_toArray, List.set_cons_zero, List.set_cons_succ]
    refine wpAnyH_take (i := 7) (oi := ⟨some 25, _, _, _, _, _⟩) (v := uv x) rfl (by kernel_rfl) (by kernel_rfl) (by kernel_rfl) (fun _ _ _ h => h) (Or.inl ⟨by rfl, ?_⟩) (by assumption) ?_
    · (intro w9 hSw; (try dsimp only at hSw); go_simp; try with_reducible rfl)
    try simp only [Act.put, List.setIfInBounds_toArray, List.set_cons_zero, List.set_cons_succ]
    refine wpAnyH_take (i := 8) (oi := ⟨some 26, _, _, _, _, _⟩) (v := ?_) rfl (by kernel_rfl) (by kernel_rfl) (by kernel_rfl) (fun _ _ _ h => h) (Or.inl ⟨by rfl, ?_⟩) (by assumption) ?_
    rotate_left
    · (intro w9 hSw; (try dsimp only at hSw); go_simp; try with_reducible rfl)
    try simp only [Act.put, List.setIfInBounds_toArray, List.set_cons_zero, List.set_cons_succ]
    refine wpAnyH_ready (rs := [9]) (by kernel_rfl) (by simp) ?_
    refine AllReadyH.cons (o := ⟨none, _, _, _, _, _⟩) rfl (fun K9 hK9 => ?_) AllReadyH.nil
    go_simp
    refine hK9.out _ _ ?_ (fun hHeld => ?_)
    · trivial
    clear hK9 K9
    try simp only [Act.put, List.setIfInBounds_toArray, List.set_cons_zero, List.set_cons_succ]
    refine wpAnyH_done (by kernel_rfl) ?_ _
    have HG3 : Hid (Blk (w2.setCell ⟨w.heap.size, 0, none⟩ (uv x)).drew w.heap.size 43 ([x, b', c', d'].map uv).toArray) := Lib.hid (HG2.out.set_ 0 (uv x)).drew
    have HR3 := Lib.hid (HR2.out.far (p := ⟨w.heap.size, 0, none⟩) (by simp) (uv x)).drew
    have hb3 : Below w.heap.size w (w2.setCell ⟨w.heap.size, 0, none⟩ (uv x)).drew := (bs hb2 (Nat.le_refl _) (uv x)).drew
    generalize (w2.setCell ⟨w.heap.size, 0, none⟩ (uv x)).drew = w3 at HG3 HR3 hb3
    clear HG2 HR2 hb2 c0' f0' HONE
    go_wp2_with (first | (refine wpList_load_row rfl _ _ rfl _ rfl _ _ _ _ HG3.out Try.underlying43 rfl (by kernel_rfl) ?_) | (refine wpList_store_mid rfl _ _ _ rfl _ _ ([x, b', c', d'].map uv).toArray rfl rfl (HR3.out.there (by simp)) (by kernel_rfl) (all_oneCell_toArray HONE2.out) ?_))
    have hW := HR3.out.whole ([x, b', c', d'].map uv) (by simp)
    refine bodyPost_ret (v := .agg ([x, b', c', d'].map uv).toArray) (results_cell_row rfl _ _ _ _ _ _ _ rfl hW Try.underlying43 rfl (by kernel_rfl)) rfl ?_
    exact ⟨rfl, bw hb3 (by omega) _ _⟩
  refine AllReadyH.cons (o := ⟨some 24, _, _, _, _, _⟩) rfl (fun K9 hK9 => ?_) AllReadyH.nil
  · skip
    go_simp
    go_at_call 55
    refine (HP.out _).mono ?_
    rintro e x6 ⟨rfl, rfl⟩
    go_wp2_with fail
    refine hK9.out _ _ ?_ (fun hHeld => ?_)
    · trivial
    clear hK9 K9
    try simp only [Act.put, List.setIfInBounds_toArray, List.set_cons_zero, List.set_cons_succ]
    refine wpAnyH_ready (rs := [1]) (by kernel_rfl) (by simp) ?_
    refine AllReadyH.cons (o := ⟨some 19, _, _, _, _, _⟩) rfl (fun K9 hK9 => ?_) AllReadyH.nil
    go_simp
    refine hK9.out _ _ ?_ (fun hHeld => ?_)
    · trivial
    clear hK9 K9
    try simp only [Act.put, List.setIfInBounds_toArray, List.set_cons_zero, List.set_cons_succ]
    refine wpAnyH_take (i := 7) (oi := ⟨some 25, _, _, _, _, _⟩) (v := uv x) rfl (by kernel_rfl) (by kernel_rfl) (by kernel_rfl) (fun _ _ _ h => h) (Or.inl ⟨by rfl, ?_⟩) (by assumption) ?_
    · (intro w9 hSw; (try dsimp only at hSw); go_simp; try with_reducible rfl)
    try simp only [Act.put, List.setIfInBounds_toArray, List.set_cons_zero, List.set_cons_succ]
    refine wpAnyH_take (i := 8) (oi := ⟨some 26, _, _, _, _, _⟩) (v := ?_) rfl (by kernel_rfl) (by kernel_rfl) (by kernel_rfl) (fun _ _ _ h => h) (Or.inl ⟨by rfl, ?_⟩) (by assumption) ?_
    rotate_left
    · (intro w9 hSw; (try dsimp only at hSw); go_simp; try with_reducible rfl)
    try simp only [Act.put, List.setIfInBounds_toArray, List.set_cons_zero, List.set_cons_succ]
    refine wpAnyH_ready (rs := [9]) (by kernel_rfl) (by simp) ?_
    refine AllReadyH.cons (o := ⟨none, _, _, _, _, _⟩) rfl (fun K9 hK9 => ?_) AllReadyH.nil
    go_simp
    refine hK9.out _ _ ?_ (fun hHeld => ?_)
    · trivial
    clear hK9 K9
    try simp only [Act.put, List.setIfInBounds_toArray, List.set_cons_zero, List.set_cons_succ]
    refine wpAnyH_done (by kernel_rfl) ?_ _
    have HG3 : Hid (Blk (w2.setCell ⟨w.heap.size, 0, none⟩ (uv x)).drew w.heap.size 43 ([x, b', c', d'].map uv).toArray) := Lib.hid (HG2.out.set_ 0 (uv x)).drew
    have HR3 := Lib.hid (HR2.out.far (p := ⟨w.heap.size, 0, none⟩) (by simp) (uv x)).drew
    have hb3 : Below w.heap.size w (w2.setCell ⟨w.heap.size, 0, none⟩ (uv x)).drew := (bs hb2 (Nat.le_refl _) (uv x)).drew
    generalize (w2.setCell ⟨w.heap.size, 0, none⟩ (uv x)).drew = w3 at HG3 HR3 hb3
    clear HG2 HR2 hb2 c0' f0' HONE
    go_wp2_with (first | (refine wpList_load_row rfl _ _ rfl _ rfl _ _ _ _ HG3.out Try.underlying43 rfl (by kernel_rfl) ?_) | (refine wpList_store_mid rfl _ _ _ rfl _ _ ([x, b', c', d'].map uv).toArray rfl rfl (HR3.out.there (by simp)) (by kernel_rfl) (all_oneCell_toArray HONE2.out) ?_))
    have hW := HR3.out.whole ([x, b', c', d'].map uv) (by simp)
    refine bodyPost_ret (v := .agg ([x, b', c', d'].map uv).toArray) (results_cell_row rfl _ _ _ _ _ _ _ rfl hW Try.underlying43 rfl (by kernel_rfl)) rfl ?_
    exact ⟨rfl, bw hb3 (by omega) _ _⟩

/-- Any word, scrambled. -/
theorem scr_any (a b c d : UInt8) (i own gb : Nat) (w : World) (hx : Blk w gb 5 bxs) (h0 : own = 4 ∨ own = 8) (hi : own ≤ i) (hi2 : i ≤ 1000) :
    Calls Try.prog 53 #[.agg #[uv a, uv b, uv c, uv d], .int .i64 (i : Int), .int .i64 (own : Int), .slice (some ⟨gb, 0, none⟩) 256 256] w fun e w' => e = .returned (.agg ((scrW [a, b, c, d] i own).map uv).toArray) ∧ Below w.heap.size w w' := by
  by_cases hz : i % own = 0
  · have hd : 1 ≤ i / own := by rcases h0 with rfl | rfl <;> omega
    have hd2 : i / own ≤ 1000 := Nat.le_trans (Nat.div_le_self _ _) hi2
    have e : scrW [a, b, c, d] i own = [box8 b ^^^ pw8 (i / own - 1), box8 c, box8 d, box8 a] := by unfold scrW; rw [if_pos hz]; rfl
    rw [e]
    refine scr_turn a b c d i own (i / own - 1) gb w hx ?_ ?_ (by omega) (by omega) (by omega) (by omega)
    · simp only [beq_iff_eq]; omega
    · rw [show i / own - 1 + 1 = i / own by omega]; simp
  · by_cases h4 : own = 8 ∧ i % own = 4
    · have e : scrW [a, b, c, d] i own = [box8 a, box8 b, box8 c, box8 d] := by unfold scrW; rw [if_neg hz, if_pos h4]; rfl
      rw [e]
      obtain ⟨rfl, h4⟩ := h4
      exact scr_box a b c d i gb w hx h4
    · have e : scrW [a, b, c, d] i own = [a, b, c, d] := by unfold scrW; rw [if_neg hz, if_neg h4]
      rw [e]
      exact scr_same a b c d i own gb w h0 hz h4
end Go.Proofs.Ytodolffolbkaaaa
