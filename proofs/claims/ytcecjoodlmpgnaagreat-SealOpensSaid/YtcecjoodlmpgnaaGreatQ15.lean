/- Texts of this seat, one behind the other: AScrA, AScr, AKeyW. -/
import Derived.Test.YtcecjoodlmpgnaaGreatQ14
/- The contract of a word's scrambled. -/
namespace Go.Proofs.YtcecjoodlmpgnaaGreat
open Go.RowKit

theorem pow2_any (n : Nat) (w : World) (hn : (n : Int) ≤ 1000) : Calls Tryz.prog 114 #[.int .u8 2, .int .i64 (n : Int)] w fun e w' => e = .returned (uv (pw8 n)) ∧ w = w' := by
  refine (pow_any 2 n w (by omega) (by omega) (by omega)).mono ?_
  rintro e w' ⟨rfl, rfl⟩
  have : uv (pw8 n) = .int .u8 ((pw 2 n : Nat) : Int) := by rw [← pw8_nat]
  rw [this]
  exact ⟨rfl, rfl⟩
theorem boxed_ex (a b c d : UInt8) (gb : Nat) (w : World) (hx : Blk w gb 5 bxs) :
    Calls Tryz.prog 132 #[.agg #[uv a, uv b, uv c, uv d], .slice (some ⟨gb, 0, none⟩) 256 256] w fun e w' => e = .returned (.agg #[uv (box8 a), uv (box8 b), uv (box8 c), uv (box8 d)]) ∧ Below w.heap.size w w' := boxed_any a b c d gb w hx

set_option maxRecDepth 100000 in
set_option maxHeartbeats 1000000 in
theorem scr_same (a b c d : UInt8) (i own gb : Nat) (w : World) (h0 : own = 4 ∨ own = 8) (h1 : i % own ≠ 0) (h2 : ¬ (own = 8 ∧ i % own = 4)) :
    Calls Tryz.prog 121 #[.agg #[uv a, uv b, uv c, uv d], .int .i64 (i : Int), .int .i64 (own : Int), .slice (some ⟨gb, 0, none⟩) 256 256] w fun e w' => e = .returned (.agg #[uv a, uv b, uv c, uv d]) ∧ Below w.heap.size w w' := by
  rcases h0 with rfl | rfl
  · have z0 : ((i : Int) % 4 == 0) = false := by simp; omega
    clear h1 h2
    go_enter Tryz.func121, Tryz.ntmps121
    go_wp2
    refine bodyPost_ret (v := .agg #[uv a, uv b, uv c, uv d]) (results_cell_row rfl _ _ _ _ _ _ _ rfl (Blk.newAt (by simp) _ _) Tryz.underlying89 rfl (by kernel_rfl)) rfl ?_
    exact ⟨rfl, ba (ba (Below.refl _ _) _) _⟩
  · have z0 : ((i : Int) % 8 == 0) = false := by simp; omega
    have z1 : ((i : Int) % 8 == 4) = false := by simp; omega
    clear h1 h2
    go_enter Tryz.func121, Tryz.ntmps121
    go_wp2
    refine bodyPost_ret (v := .agg #[uv a, uv b, uv c, uv d]) (results_cell_row rfl _ _ _ _ _ _ _ rfl (Blk.newAt (by simp) _ _) Tryz.underlying89 rfl (by kernel_rfl)) rfl ?_
    exact ⟨rfl, ba (ba (Below.refl _ _) _) _⟩

set_option maxRecDepth 100000 in
set_option maxHeartbeats 1000000 in
theorem scr_box (a b c d : UInt8) (i gb : Nat) (w : World) (hx : Blk w gb 5 bxs) (h2 : i % 8 = 4) :
    Calls Tryz.prog 121 #[.agg #[uv a, uv b, uv c, uv d], .int .i64 (i : Int), .int .i64 8, .slice (some ⟨gb, 0, none⟩) 256 256] w fun e w' => e = .returned (.agg #[uv (box8 a), uv (box8 b), uv (box8 c), uv (box8 d)]) ∧ Below w.heap.size w w' := by
  have z0 : ((i : Int) % 8 == 0) = false := by simp; omega
  have z1 : ((i : Int) % 8 == 4) = true := by simp; omega
  have HX := Lib.hid hx
  have HC := Lib.hid (boxed_ex a b c d gb)
  generalize box8 a = a' at HC ⊢
  generalize box8 b = b' at HC ⊢
  generalize box8 c = c' at HC ⊢
  generalize box8 d = d' at HC ⊢
  clear h2 hx
  go_enter Tryz.func121, Tryz.ntmps121
  go_wp2_with fail
  refine (HC.out _ ((HX.out.alloc _).alloc _)).mono ?_
  rintro e w1 ⟨rfl, hb⟩
  have G := Lib.hid (((Blk.new w 89 #[uv a, uv b, uv c, uv d]).alloc (.cells #[.int .u8 0, .int .u8 0, .int .u8 0, .int .u8 0] 89)).below hb)
  have R := Lib.hid ((Blk.newAt (w := w.alloc (.cells #[uv a, uv b, uv c, uv d] 89)) (g := w.heap.size + 1) (by simp) 89 #[.int .u8 0, .int .u8 0, .int .u8 0, .int .u8 0]).below hb)
  have hb1 : Below w.heap.size w w1 := bt (ba (ba (Below.refl _ _) _) _) hb
  clear hb HX HC
  have HONE := Lib.hid (uvs_one [a', b', c', d'])
  have HG2 := Lib.hid (G.out.whole ([a', b', c', d'].map uv) (by simp))
  have HR2 := Lib.hid (R.out.far_ (k := w.heap.size + 1) (g := w.heap.size) (by omega) 0 ([a', b', c', d'].map uv))
  simp only []
  go_upto_region 6 with (refine wpList_store_mid rfl _ _ _ rfl _ _ ([a', b', c', d'].map uv).toArray rfl rfl (G.out.there (by simp)) (by kernel_rfl) (all_oneCell_toArray HONE.out) ?_)
  generalize hw2 : World.setCells w1 w.heap.size 0 _ = w2
  rw [hw2] at HG2 HR2
  have hb2 : Below w.heap.size w w2 := by rw [← hw2]; exact bw hb1 (Nat.le_refl _) _ _
  clear hw2 G R hb1
  go_wp2_with (first | (refine wpList_load_row rfl _ _ rfl _ rfl _ _ _ _ HG2.out Tryz.underlying89 rfl (by kernel_rfl) ?_) | (refine wpList_store_mid rfl _ _ _ rfl _ _ ([a', b', c', d'].map uv).toArray rfl rfl (HR2.out.there (by simp)) (by kernel_rfl) (all_oneCell_toArray HONE.out) ?_))
  have hW := HR2.out.whole ([a', b', c', d'].map uv) (by simp)
  refine bodyPost_ret (v := .agg ([a', b', c', d'].map uv).toArray) (results_cell_row rfl _ _ _ _ _ _ _ rfl hW Tryz.underlying89 rfl (by kernel_rfl)) rfl ?_
  exact ⟨rfl, bw hb2 (by omega) _ _⟩

end Go.Proofs.YtcecjoodlmpgnaaGreat
/- The contract of a word's scrambled: the first word of a round. -/
namespace Go.Proofs.YtcecjoodlmpgnaaGreat
open Go.RowKit

set_option maxRecDepth 100000 in
set_option maxHeartbeats 1000000 in
theorem scr_turn (a b c d : UInt8) (i own n gb : Nat) (w : World) (hx : Blk w gb 5 bxs) (hz : ((i : Int) % (own : Int) == 0) = true) (hq : (i : Int) / (own : Int) = ((n + 1 : Nat) : Int)) (hn : (n : Int) ≤ 1000) (ho : 0 < own) (hi : (i : Int) ≤ 1000) (ho2 : (own : Int) ≤ 1000) :
    Calls Tryz.prog 121 #[.agg #[uv a, uv b, uv c, uv d], .int .i64 (i : Int), .int .i64 (own : Int), .slice (some ⟨gb, 0, none⟩) 256 256] w fun e w' => e = .returned (.agg #[uv (box8 b ^^^ pw8 n), uv (box8 c), uv (box8 d), uv (box8 a)]) ∧ Below w.heap.size w w' := by
  have HX := Lib.hid hx
  have HT := Lib.hid (turned_any a b c d)
  have HC := Lib.hid (boxed_ex b c d a gb)
  have HP := Lib.hid (fun W => pow2_any n W hn)
  generalize box8 a = d' at HC ⊢
  generalize box8 b = a' at HC ⊢
  generalize box8 c = b' at HC ⊢
  generalize box8 d = c' at HC ⊢
  generalize pw8 n = p at HP ⊢
  have hxr := xor_byte a' p
  obtain ⟨x, hx'⟩ : ∃ x, a' ^^^ p = x := ⟨_, rfl⟩
  rw [hx'] at hxr ⊢
  have hon : ¬ own = 0 := by omega
  have hn1 : ((n + 1 : Nat) : Int) - 1 = (n : Int) := by omega
  obtain ⟨m, hm⟩ : ∃ m, n + 1 = m := ⟨_, rfl⟩
  rw [hm] at hq hn1
  have HM := Lib.hid hm
  have HWM : Hid (IntKind.i64.wrap (m : Int) = (m : Int) ∧ IntKind.i64.wrap (n : Int) = (n : Int)) := Lib.hid (by constructor <;> (rw [IntKind.wrap_i64]; omega))
  clear hx' hx hm
  go_enter Tryz.func121, Tryz.ntmps121
  go_wp2_with fail
  refine (HT.out _).mono ?_
  rintro e w0 ⟨rfl, hb0⟩
  have z0 := hb0.size
  have G0 := ((Blk.new w 89 #[uv a, uv b, uv c, uv d]).alloc (.cells #[.int .u8 0, .int .u8 0, .int .u8 0, .int .u8 0] 89)).below hb0
  have R0 := (Blk.newAt (w := w.alloc (.cells #[uv a, uv b, uv c, uv d] 89)) (g := w.heap.size + 1) (by simp) 89 #[.int .u8 0, .int .u8 0, .int .u8 0, .int .u8 0]).below hb0
  have hB0 : Below w.heap.size w w0 := bt (ba (ba (Below.refl _ _) _) _) hb0
  have HG0 := Lib.hid G0
  have HR0 := Lib.hid R0
  clear G0 R0 hb0 z0
  go_wp2_with fail
  refine (HC.out _ (HX.out.below hB0)).mono ?_
  rintro e w1 ⟨rfl, hb⟩
  have G := Lib.hid (HG0.out.below hb)
  have R := Lib.hid (HR0.out.below hb)
  have hb1 : Below w.heap.size w w1 := bt hB0 hb
  clear hb hB0 HG0 HR0 HX HC HT
  have HONE := Lib.hid (uvs_one [a', b', c', d'])
  have HONE2 := Lib.hid (uvs_one [x, b', c', d'])
  have HG2 := Lib.hid (G.out.whole ([a', b', c', d'].map uv) (by simp))
  have HR2 := Lib.hid (R.out.far_ (k := w.heap.size + 1) (g := w.heap.size) (by omega) 0 ([a', b', c', d'].map uv))
  simp only []
  go_upto_region 3 with (refine wpList_store_mid rfl _ _ _ rfl _ _ ([a', b', c', d'].map uv).toArray rfl rfl (G.out.there (by simp)) (by kernel_rfl) (all_oneCell_toArray HONE.out) ?_)
  generalize hw2 : World.setCells w1 w.heap.size 0 _ = w2
  rw [hw2] at HG2 HR2
  have hb2 : Below w.heap.size w w2 := by rw [← hw2]; exact bw hb1 (Nat.le_refl _) _ _
  clear hw2 G R hb1
  have c0 := HG2.out.cell 0
  have f0 := HG2.out.frozen 0
  simp only [List.map_cons, List.getElem?_toArray, List.getElem?_cons_zero] at c0
  go_wp2_with fail
  refine wp_region_held_drew (S := fun _ => True) (by kernel_rfl) trivial (fun hHeld => ?_)
  have c0' : w2.drew.cell? ⟨w.heap.size, 0, none⟩ = some (uv a') := c0
  have f0' : w2.drew.frozen? ⟨w.heap.size, 0, none⟩ = false := f0
  clear c0 f0
  refine wpAnyH_take (i := 0) (oi := ⟨some 18, _, _, _, _, _⟩) (v := ?_) rfl (by kernel_rfl) (by kernel_rfl) (by kernel_rfl) (fun _ _ _ h => h) (Or.inl ⟨by rfl, ?_⟩) (by assumption) ?_
  rotate_left
  · (intro w9 hSw; (try dsimp only at hSw); go_simp; try with_reducible rfl)
  try simp only [Act.put, List.setIfInBounds_toArray, List.set_cons_zero, List.set_cons_succ]
  refine wpAnyH_take (i := 2) (oi := ⟨some 20, _, _, _, _, _⟩) (v := ?_) rfl (by kernel_rfl) (by kernel_rfl) (by kernel_rfl) (fun _ _ _ h => h) (Or.inl ⟨by rfl, ?_⟩) (by assumption) ?_
  rotate_left
  · (intro w9 hSw; (try dsimp only at hSw); go_simp; try with_reducible rfl)
  try simp only [Act.put, List.setIfInBounds_toArray, List.set_cons_zero, List.set_cons_succ]
  refine wpAnyH_take (i := 3) (oi := ⟨some 21, _, _, _, _, _⟩) (v := ?_) rfl (by kernel_rfl) (by kernel_rfl) (by kernel_rfl) (fun _ _ _ h => h) (Or.inl ⟨by rfl, ?_⟩) (by assumption) ?_
  rotate_left
  · (intro w9 hSw; (try dsimp only at hSw); go_simp; try with_reducible rfl)
  try simp only [Act.put, List.setIfInBounds_toArray, List.set_cons_zero, List.set_cons_succ]
  refine wpAnyH_take (i := 4) (oi := ⟨some 22, _, _, _, _, _⟩) (v := .int .i64 (m : Int)) rfl (by kernel_rfl) (by kernel_rfl) (by kernel_rfl) (fun _ _ _ h => h) (Or.inl ⟨by rfl, ?_⟩) (by assumption) ?_
  · (intro w9 hSw; (try dsimp only at hSw); go_simp; (try rw [hq]); rw [HWM.out.1])
  try simp only [Act.put, List.setIfInBounds_toArray, List.set_cons_zero, List.set_cons_succ]
  refine wpAnyH_take (i := 5) (oi := ⟨some 23, _, _, _, _, _⟩) (v := .int .i64 (n : Int)) rfl (by kernel_rfl) (by kernel_rfl) (by kernel_rfl) (fun _ _ _ h => h) (Or.inl ⟨by rfl, ?_⟩) (by assumption) ?_
  · (intro w9 hSw; (try dsimp only at hSw); go_simp; (try rw [hn1]); rw [HWM.out.2])
  try simp only [Act.put, List.setIfInBounds_toArray, List.set_cons_zero, List.set_cons_succ]
  refine wpAnyH_ready (rs := [1, 6]) (by kernel_rfl) (by simp) ?_
  refine AllReadyH.cons (o := ⟨some 19, _, _, _, _, _⟩) rfl (fun K9 hK9 => ?_) ?_
  · skip
    go_simp
    refine hK9.out _ _ ?_ (fun hHeld => ?_)
    · trivial
    clear hK9 K9
    try simp only [Act.put, List.setIfInBounds_toArray, List.set_cons_zero, List.set_cons_succ]
    refine wpAnyH_ready (rs := [6]) (by kernel_rfl) (by simp) ?_
    refine AllReadyH.cons (o := ⟨some 24, _, _, _, _, _⟩) rfl (fun K9 hK9 => ?_) AllReadyH.nil
    go_simp
    go_at_call 114
    refine (HP.out _).mono ?_
    rintro e x6 ⟨rfl, rfl⟩
    go_wp2_with fail
    refine hK9.out _ _ ?_ (fun hHeld => ?_)
    · trivial
    clear hK9 K9
    try simp only [Act.put, List.setIfInBounds_toArray, List.set_cons_zero, List.set_cons_succ]
    refine wpAnyH_take (i := 7) (oi := ⟨some 25, _, _, _, _, _⟩) (v := uv x) rfl (by kernel_rfl) (by kernel_rfl) (by kernel_rfl) (fun _ _ _ h => h) (Or.inl ⟨by rfl, ?_⟩) (by assumption) ?_
    · (intro w9 hSw; (try dsimp only at hSw); go_simp; try with_reducible rfl)
    try simp only [Act.put, List.setIfInBounds_toArray, List.set_cons_zero, List.set_cons_succ]
    refine wpAnyH_take (i := 8) (oi := ⟨some 26, _, _, _, _, _⟩) (v := ?_) rfl (by kernel_rfl) (by kernel_rfl) (by kernel_rfl) (fun _ _ _ h => h) (Or.inl ⟨by rfl, ?_⟩) (by assumption) ?_
    rotate_left
    · (intro w9 hSw; (try dsimp only at hSw); go_simp; try with_reducible rfl)
    try simp only [Act.put, List.setIfInBounds_toArray, List.set_cons_zero, List.set_cons_succ]
    refine wpAnyH_ready (rs := [9]) (by kernel_rfl) (by simp) ?_
    refine AllReadyH.cons (o := ⟨none, _, _, _, _, _⟩) rfl (fun K9 hK9 => ?_) AllReadyH.nil
    go_simp
    refine hK9.out _ _ ?_ (fun hHeld => ?_)
    · trivial
    clear hK9 K9
    try simp only [Act.put, List.setIfInBounds_toArray, List.set_cons_zero, List.set_cons_succ]
    refine wpAnyH_done (by kernel_rfl) ?_ _
    have HG3 : Hid (Blk (w2.setCell ⟨w.heap.size, 0, none⟩ (uv x)).drew w.heap.size 89 ([x, b', c', d'].map uv).toArray) := Lib.hid (HG2.out.set_ 0 (uv x)).drew
    have HR3 := Lib.hid (HR2.out.far (p := ⟨w.heap.size, 0, none⟩) (by simp) (uv x)).drew
    have hb3 : Below w.heap.size w (w2.setCell ⟨w.heap.size, 0, none⟩ (uv x)).drew := (bs hb2 (Nat.le_refl _) (uv x)).drew
    generalize (w2.setCell ⟨w.heap.size, 0, none⟩ (uv x)).drew = w3 at HG3 HR3 hb3
    clear HG2 HR2 hb2 c0' f0' HONE
    go_wp2_with (first | (refine wpList_load_row rfl _ _ rfl _ rfl _ _ _ _ HG3.out Tryz.underlying89 rfl (by kernel_rfl) ?_) | (refine wpList_store_mid rfl _ _ _ rfl _ _ ([x, b', c', d'].map uv).toArray rfl rfl (HR3.out.there (by simp)) (by kernel_rfl) (all_oneCell_toArray HONE2.out) ?_))
    have hW := HR3.out.whole ([x, b', c', d'].map uv) (by simp)
    refine bodyPost_ret (v := .agg ([x, b', c', d'].map uv).toArray) (results_cell_row rfl _ _ _ _ _ _ _ rfl hW Tryz.underlying89 rfl (by kernel_rfl)) rfl ?_
    exact ⟨rfl, bw hb3 (by omega) _ _⟩
  refine AllReadyH.cons (o := ⟨some 24, _, _, _, _, _⟩) rfl (fun K9 hK9 => ?_) AllReadyH.nil
  · skip
    go_simp
    go_at_call 114
    refine (HP.out _).mono ?_
    rintro e x6 ⟨rfl, rfl⟩
    go_wp2_with fail
    refine hK9.out _ _ ?_ (fun hHeld => ?_)
    · trivial
    clear hK9 K9
    try simp only [Act.put, List.setIfInBounds_toArray, List.set_cons_zero, List.set_cons_succ]
    refine wpAnyH_ready (rs := [1]) (by kernel_rfl) (by simp) ?_
    refine AllReadyH.cons (o := ⟨some 19, _, _, _, _, _⟩) rfl (fun K9 hK9 => ?_) AllReadyH.nil
    go_simp
    refine hK9.out _ _ ?_ (fun hHeld => ?_)
    · trivial
    clear hK9 K9
    try simp only [Act.put, List.setIfInBounds_toArray, List.set_cons_zero, List.set_cons_succ]
    refine wpAnyH_take (i := 7) (oi := ⟨some 25, _, _, _, _, _⟩) (v := uv x) rfl (by kernel_rfl) (by kernel_rfl) (by kernel_rfl) (fun _ _ _ h => h) (Or.inl ⟨by rfl, ?_⟩) (by assumption) ?_
    · (intro w9 hSw; (try dsimp only at hSw); go_simp; try with_reducible rfl)
    try simp only [Act.put, List.setIfInBounds_toArray, List.set_cons_zero, List.set_cons_succ]
    refine wpAnyH_take (i := 8) (oi := ⟨some 26, _, _, _, _, _⟩) (v := ?_) rfl (by kernel_rfl) (by kernel_rfl) (by kernel_rfl) (fun _ _ _ h => h) (Or.inl ⟨by rfl, ?_⟩) (by assumption) ?_
    rotate_left
    · (intro w9 hSw; (try dsimp only at hSw); go_simp; try with_reducible rfl)
    try simp only [Act.put, List.setIfInBounds_toArray, List.set_cons_zero, List.set_cons_succ]
    refine wpAnyH_ready (rs := [9]) (by kernel_rfl) (by simp) ?_
    refine AllReadyH.cons (o := ⟨none, _, _, _, _, _⟩) rfl (fun K9 hK9 => ?_) AllReadyH.nil
    go_simp
    refine hK9.out _ _ ?_ (fun hHeld => ?_)
    · trivial
    clear hK9 K9
    try simp only [Act.put, List.setIfInBounds_toArray, List.set_cons_zero, List.set_cons_succ]
    refine wpAnyH_done (by kernel_rfl) ?_ _
    have HG3 : Hid (Blk (w2.setCell ⟨w.heap.size, 0, none⟩ (uv x)).drew w.heap.size 89 ([x, b', c', d'].map uv).toArray) := Lib.hid (HG2.out.set_ 0 (uv x)).drew
    have HR3 := Lib.hid (HR2.out.far (p := ⟨w.heap.size, 0, none⟩) (by simp) (uv x)).drew
    have hb3 : Below w.heap.size w (w2.setCell ⟨w.heap.size, 0, none⟩ (uv x)).drew := (bs hb2 (Nat.le_refl _) (uv x)).drew
    generalize (w2.setCell ⟨w.heap.size, 0, none⟩ (uv x)).drew = w3 at HG3 HR3 hb3
    clear HG2 HR2 hb2 c0' f0' HONE
    go_wp2_with (first | (refine wpList_load_row rfl _ _ rfl _ rfl _ _ _ _ HG3.out Tryz.underlying89 rfl (by kernel_rfl) ?_) | (refine wpList_store_mid rfl _ _ _ rfl _ _ ([x, b', c', d'].map uv).toArray rfl rfl (HR3.out.there (by simp)) (by kernel_rfl) (all_oneCell_toArray HONE2.out) ?_))
    have hW := HR3.out.whole ([x, b', c', d'].map uv) (by simp)
    refine bodyPost_ret (v := .agg ([x, b', c', d'].map uv).toArray) (results_cell_row rfl _ _ _ _ _ _ _ rfl hW Tryz.underlying89 rfl (by kernel_rfl)) rfl ?_
    exact ⟨rfl, bw hb3 (by omega) _ _⟩

/-- Any word, scrambled. -/
theorem scr_any (a b c d : UInt8) (i own gb : Nat) (w : World) (hx : Blk w gb 5 bxs) (h0 : own = 4 ∨ own = 8) (hi : own ≤ i) (hi2 : i ≤ 1000) :
    Calls Tryz.prog 121 #[.agg #[uv a, uv b, uv c, uv d], .int .i64 (i : Int), .int .i64 (own : Int), .slice (some ⟨gb, 0, none⟩) 256 256] w fun e w' => e = .returned (.agg ((scrW [a, b, c, d] i own).map uv).toArray) ∧ Below w.heap.size w w' := by
  by_cases hz : i % own = 0
  · have hd : 1 ≤ i / own := by rcases h0 with rfl | rfl <;> omega
    have hd2 : i / own ≤ 1000 := Nat.le_trans (Nat.div_le_self _ _) hi2
    have e : scrW [a, b, c, d] i own = [box8 b ^^^ pw8 (i / own - 1), box8 c, box8 d, box8 a] := by unfold scrW; rw [if_pos hz]; rfl
    rw [e]
    refine scr_turn a b c d i own (i / own - 1) gb w hx ?_ ?_ (by omega) (by omega) (by omega) (by omega)
    · simp only [beq_iff_eq]; omega
    · rw [show i / own - 1 + 1 = i / own by omega]; simp
  · by_cases h4 : own = 8 ∧ i % own = 4
    · have e : scrW [a, b, c, d] i own = [box8 a, box8 b, box8 c, box8 d] := by unfold scrW; rw [if_neg hz, if_pos h4]; rfl
      rw [e]
      obtain ⟨rfl, h4⟩ := h4
      exact scr_box a b c d i gb w hx h4
    · have e : scrW [a, b, c, d] i own = [a, b, c, d] := by unfold scrW; rw [if_neg hz, if_neg h4]
      rw [e]
      exact scr_same a b c d i own gb w h0 hz h4
end Go.Proofs.YtcecjoodlmpgnaaGreat
/- The contract of keyWords: a key's words, and those made of them. -/
namespace Go.Proofs.YtcecjoodlmpgnaaGreat
open Go.RowKit

theorem xor_ex (A B : List UInt8) (a b c d a' b' c' d' : UInt8) (w : World) (hA : A = [a, b, c, d]) (hB : B = [a', b', c', d']) :
    Calls Tryz.prog 120 #[.agg #[uv a, uv b, uv c, uv d], .agg #[uv a', uv b', uv c', uv d']] w fun e w' => e = .returned (.agg ((xorW A B).map uv).toArray) ∧ Below w.heap.size w w' := by
  subst hA hB
  exact xor_any a b c d a' b' c' d' w

set_option maxRecDepth 100000 in
set_option maxHeartbeats 4000000 in
theorem keyWords_any (key : List UInt8) (own many gb : Nat) (w : World) (hx : Blk w gb 5 bxs) (hk : key.length = 16 ∨ key.length = 32) (ho : key.length / 4 = own) (hm : 4 * (own + 7) = many) :
    Calls Tryz.prog 88 #[.string ⟨key.toArray⟩, .int .i64 (many : Int), .slice (some ⟨gb, 0, none⟩) 256 256] w fun e w' => ∃ g, e = .returned (.slice (some ⟨g, 0, none⟩) many many) ∧ w.heap.size ≤ g ∧ Blk w' g 89 ((keysF key).map uv).toArray ∧ Below w.heap.size w w' := by
  obtain ⟨i0, hi, hz0, hz1, hz2⟩ := info_parts infoW
  have hmk := make_words many (by omega)
  have HX := Lib.hid hx
  have HN : Hid ((keysF key).length = many * 4) := Lib.hid (by rw [keysF_len key hk]; omega)
  have HZ := Lib.hid (zerosL_len (many * 4))
  have HK := Lib.hid (keysF_key key hk)
  have HW := Lib.hid (keysF_word key hk)
  have HO : Hid ((own = 4 ∨ own = 8) ∧ own ≤ many ∧ many ≤ 60) := Lib.hid (by omega)
  have HL : Hid (key.length = 4 * own) := Lib.hid (by omega)
  rw [ho, hm] at HW
  obtain ⟨N, hN⟩ : ∃ N, keysF key = N := ⟨_, rfl⟩
  rw [hN] at HN HK HW ⊢
  have H0 : Hid (((zerosL (many * 4)).map uv).toArray = ((cutL (0 * 4) N (zerosL (many * 4))).map uv).toArray) := Lib.hid (by rw [Nat.zero_mul, cutL_zero])
  obtain ⟨Z, hZ⟩ : ∃ Z, zerosL (many * 4) = Z := ⟨_, rfl⟩
  rw [hZ] at hmk HZ H0
  have hmi : (many : Int) ≤ 60 := by have := HO.out; omega
  have BN := Lib.hid (Blk.new w 89 (Z.map uv).toArray)
  have hbN := ba (Below.refl w.heap.size w) (.cells (Z.map uv).toArray 89)
  generalize hwn : w.alloc (.cells (Z.map uv).toArray 89) = wn at BN hbN
  have hmk' := hmk w
  rw [hwn] at hmk'
  rw [H0.out] at BN
  clear hN hZ hk ho hm hx hmk hwn H0
  go_enter Tryz.func88, Tryz.ntmps88
  go_wp2_with fail
  go_loopw [7, 8] (fun wv rv wr => ∃ k : Nat, k ≤ own ∧ wv = .slice (some ⟨w.heap.size, 0, none⟩) k many ∧ rv = .string ⟨(key.drop (4 * k)).toArray⟩ ∧ Hid (Blk wr w.heap.size 89 ((cutL (k * 4) N Z).map uv).toArray) ∧ Below w.heap.size w wr) (fun _ rv _ => match rv with | .string x => x.size | _ => 0)
  case atStart => exact ⟨0, Nat.zero_le _, rfl, rfl, BN, hbN⟩
  case round =>
    clear BN hbN hmk'
    obtain ⟨k, hk, rfl, rfl, B, hb⟩ := hrel
    have hsz : (key.drop (4 * k)).length = 4 * (own - k) := by rw [List.length_drop, HL.out]; omega
    by_cases hlt : k < own
    · have h0 := ub_drop key (4 * k) 0
      have h1 := ub_drop key (4 * k) 1
      have h2 := ub_drop key (4 * k) 2
      have h3 := ub_drop key (4 * k) 3
      rw [← HK.out _ (by rw [HL.out]; omega), show 4 * k + 0 = k * 4 by omega] at h0
      rw [← HK.out _ (by rw [HL.out]; omega), show 4 * k + 1 = k * 4 + 1 by omega] at h1
      rw [← HK.out _ (by rw [HL.out]; omega), show 4 * k + 2 = k * 4 + 2 by omega] at h2
      rw [← HK.out _ (by rw [HL.out]; omega), show 4 * k + 3 = k * 4 + 3 by omega] at h3
      have HR := Lib.hid (fun W => wordOf_any (key.drop (4 * k)) W (by omega))
      have hdd := extract_drop (key.drop (4 * k)) 4 _ hsz
      have hd2 : (key.drop (4 * k)).drop 4 = key.drop (4 * (k + 1)) := by rw [List.drop_drop]; congr 1
      rw [hd2] at hdd
      have hemp : (key.drop (4 * k)).isEmpty = false := by
        cases hq : key.drop (4 * k) with
        | nil => rw [hq] at hsz; simp at hsz; omega
        | cons _ _ => rfl
      have hs := size_of (key.drop (4 * k))
      rw [hsz] at hs
      rw [h0, h1, h2, h3] at HR
      have HP := Lib.hid (fun (W : World) (t : TypeId) (hB : Blk W w.heap.size t ((cutL (k * 4) N Z).map uv).toArray) => put4 hB HN.out HZ.out (by have := HO.out; omega))
      have HSP := Lib.hid (fun (W : World) (t : TypeId) (hB : Blk W w.heap.size t ((cutL (k * 4) N Z).map uv).toArray) => hB.spare (o := k * 4) (n := 4) (by rw [uvs_size, cutL_len HN.out HZ.out (by have := HO.out; omega)]; have := HO.out; omega))
      generalize ub N (k * 4) = n0 at HR HP
      generalize ub N (k * 4 + 1) = n1 at HR HP
      generalize ub N (k * 4 + 2) = n2 at HR HP
      generalize ub N (k * 4 + 3) = n3 at HR HP
      obtain ⟨R, hR⟩ : ∃ R, key.drop (4 * k) = R := ⟨_, rfl⟩
      obtain ⟨m, hm⟩ : ∃ m, 4 * (own - k) = m := ⟨_, rfl⟩
      rw [hR] at HR hdd hs hemp
      rw [hm] at hs hdd
      have m4 : (4 : Int) ≤ (m : Int) := by omega
      clear h0 h1 h2 h3 hsz hd2 hm
      go_wp2_with fail
      refine (HR.out _).mono ?_
      rintro e w1 ⟨rfl, hb1⟩
      have B1 := Lib.hid (B.out.below hb1)
      have hB1 := bt hb hb1
      have z1 := hB1.size
      have HNW := Lib.hid (news_new w1 [uv n0, uv n1, uv n2, uv n3] 89)
      have HB2 := Lib.hid (B1.out.alloc (.cells #[uv n0, uv n1, uv n2, uv n3] 89))
      have hb2 := ba hB1 (.cells #[uv n0, uv n1, uv n2, uv n3] 89)
      clear hb1 B hb
      go_wp2_with (at_builtin; refine wpList_append_room rfl (.tmp 18) (.tmp 21) 129 rfl 89 i0 4 Tryz.underlying129 hi hz1 w.heap.size 0 k many rfl ⟨w1.heap.size, 0, none⟩ 1 1 [uv n0, uv n1, uv n2, uv n3] rfl rfl HNW.out (uvs_one [n0, n1, n2, n3]) (by have := HO.out; omega) (by rw [Nat.zero_add]; exact HSP.out _ _ HB2.out) ?_)
      have HB3 := Lib.hid (HP.out _ _ HB2.out)
      have hb3 := bw hb2 (Nat.le_refl w.heap.size) (k * 4) [uv n0, uv n1, uv n2, uv n3]
      have hq4 : k * 4 + 4 = (k + 1) * 4 := by omega
      rw [hq4] at HB3
      refine ⟨⟨k + 1, by omega, rfl, rfl, HB3, hb3⟩, ?_⟩
      show (⟨(key.drop (4 * (k + 1))).toArray⟩ : ByteArray).size < (⟨(key.drop (4 * k)).toArray⟩ : ByteArray).size
      rw [size_of, size_of, List.length_drop, List.length_drop, HL.out]
      omega
    · obtain rfl : k = own := by omega
      have hR : key.drop (4 * k) = [] := List.eq_nil_of_length_eq_zero (by omega)
      clear hsz hlt hk
      go_wp2_with fail
      go_loopw [7, 10] (fun wv iv wx => ∃ i : Nat, k ≤ i ∧ i ≤ many ∧ iv = .int .i64 i ∧ wv = .slice (some ⟨w.heap.size, 0, none⟩) i many ∧ Hid (Blk wx w.heap.size 89 ((cutL (i * 4) N Z).map uv).toArray) ∧ Below w.heap.size w wx) (fun _ iv _ => many - (intOf iv).toNat)
      case atStart => exact ⟨k, Nat.le_refl _, HO.out.2.1, rfl, rfl, B, hb⟩
      case round =>
        clear B hb hR
        obtain ⟨i, hki, him, rfl, rfl, B, hb⟩ := hrel
        by_cases hlt : i < many
        · have hili : (i : Int) < (many : Int) := by omega
          obtain ⟨j, hj⟩ : ∃ j : Nat, i - k = j := ⟨_, rfl⟩
          obtain ⟨m, hm⟩ : ∃ m : Nat, i - 1 = m := ⟨_, rfl⟩
          have hji : (i : Int) - (k : Int) = (j : Int) := by omega
          have hmi2 : (i : Int) - 1 = (m : Int) := by have := HO.out; omega
          have j1 : (j : Int) < (i : Int) := by have := HO.out; omega
          have m1 : (m : Int) < (i : Int) := by have := HO.out; omega
          have j0 : (0 : Int) ≤ (j : Int) := by omega
          have m0 : (0 : Int) ≤ (m : Int) := by omega
          have HWJ : Hid (IntKind.i64.wrap (j : Int) = (j : Int) ∧ IntKind.i64.wrap (m : Int) = (m : Int)) := Lib.hid (by constructor <;> (rw [IntKind.wrap_i64]; omega))
          have hJ : j * 4 + 3 < i * 4 := by have := HO.out; omega
          have hM : m * 4 + 3 < i * 4 := by have := HO.out; omega
          have hcj : colG N (i - k) = [ub N (j * 4), ub N (j * 4 + 1), ub N (j * 4 + 2), ub N (j * 4 + 3)] := by rw [hj, colG_four, Nat.mul_comm]
          have hcm : colG N (i - 1) = [ub N (m * 4), ub N (m * 4 + 1), ub N (m * 4 + 2), ub N (m * 4 + 3)] := by rw [hm, colG_four, Nat.mul_comm]
          have hci : colG N i = [ub N (i * 4), ub N (i * 4 + 1), ub N (i * 4 + 2), ub N (i * 4 + 3)] := by rw [colG_four, Nat.mul_comm]
          have hwi := HW.out i hki hlt
          unfold nextW at hwi
          rw [hci, hcj, hcm] at hwi
          have HP := Lib.hid (fun (W : World) (t : TypeId) (hB : Blk W w.heap.size t ((cutL (i * 4) N Z).map uv).toArray) => put4 hB HN.out HZ.out (by omega))
          have HSP := Lib.hid (fun (W : World) (t : TypeId) (hB : Blk W w.heap.size t ((cutL (i * 4) N Z).map uv).toArray) => hB.spare (o := i * 4) (n := 4) (by rw [uvs_size, cutL_len HN.out HZ.out (by omega)]; omega))
          have HK0 := Lib.hid (kn_of (k := i * 4) B.out HN.out HZ.out (by omega)).drew
          have HKN := Lib.hid (fun (W : World) (t : TypeId) (hB : Blk W w.heap.size t ((cutL (i * 4 + 4) N Z).map uv).toArray) => (kn_of hB HN.out HZ.out (by omega)).le (show i * 4 ≤ i * 4 + 4 by omega))
          have HQ := Lib.hid (fun (W : World) (hW : Kn W w.heap.size N (i * 4)) => (⟨hW (j * 4) (by omega), hW (j * 4 + 1) (by omega), hW (j * 4 + 2) (by omega), hW (j * 4 + 3) (by omega), hW (m * 4) (by omega), hW (m * 4 + 1) (by omega), hW (m * 4 + 2) (by omega), hW (m * 4 + 3) (by omega)⟩ : _ ∧ _ ∧ _ ∧ _ ∧ _ ∧ _ ∧ _ ∧ _))
          obtain ⟨n0, hn0⟩ : ∃ n, ub N (i * 4) = n := ⟨_, rfl⟩
          obtain ⟨n1, hn1⟩ : ∃ n, ub N (i * 4 + 1) = n := ⟨_, rfl⟩
          obtain ⟨n2, hn2⟩ : ∃ n, ub N (i * 4 + 2) = n := ⟨_, rfl⟩
          obtain ⟨n3, hn3⟩ : ∃ n, ub N (i * 4 + 3) = n := ⟨_, rfl⟩
          rw [hn0, hn1, hn2, hn3] at hwi HP
          generalize ub N (j * 4) = x0 at hwi HQ
          generalize ub N (j * 4 + 1) = x1 at hwi HQ
          generalize ub N (j * 4 + 2) = x2 at hwi HQ
          generalize ub N (j * 4 + 3) = x3 at hwi HQ
          have HSC := Lib.hid (fun (W : World) (hW : Blk W gb 5 bxs) => scr_any (ub N (m * 4)) (ub N (m * 4 + 1)) (ub N (m * 4 + 2)) (ub N (m * 4 + 3)) i k gb W hW HO.out.1 hki (by have := HO.out; omega))
          generalize ub N (m * 4) = y0 at hwi HQ HSC
          generalize ub N (m * 4 + 1) = y1 at hwi HQ HSC
          generalize ub N (m * 4 + 2) = y2 at hwi HQ HSC
          generalize ub N (m * 4 + 3) = y3 at hwi HQ HSC
          obtain ⟨s0, s1, s2, s3, hs⟩ := four_list (scrW_len y0 y1 y2 y3 i k)
          rw [hs] at hwi HSC
          have HXR := Lib.hid (fun W => xor_any x0 x1 x2 x3 s0 s1 s2 s3 W)
          rw [← hwi] at HXR
          have HX0 := Lib.hid (HX.out.below hb).drew
          have hb0 := hb.drew
          have HB0 := Lib.hid B.out.drew
          clear hcj hcm hci hwi hn0 hn1 hn2 hn3 hs hJ hM hj hm B hb
          go_wp2_with fail
          refine wp_region_held_drew (S := fun W => Kn W w.heap.size N (i * 4)) (by kernel_rfl) HK0.out (fun hHeld => ?_)
          refine wpAnyH_take (i := 0) (oi := ⟨some 31, _, _, _, _, _⟩) (v := ?_) rfl (by kernel_rfl) (by kernel_rfl) (by kernel_rfl) (fun _ _ _ h => h) (Or.inl ⟨by rfl, ?_⟩) (by assumption) ?_
          rotate_left
          · (intro w9 hSw; (try dsimp only at hSw); go_simp; try with_reducible rfl)
          try simp only [Act.put, List.setIfInBounds_toArray, List.set_cons_zero, List.set_cons_succ]
          refine wpAnyH_take (i := 1) (oi := ⟨some 32, _, _, _, _, _⟩) (v := ?_) rfl (by kernel_rfl) (by kernel_rfl) (by kernel_rfl) (fun _ _ _ h => h) (Or.inl ⟨by rfl, ?_⟩) (by assumption) ?_
          rotate_left
          · (intro w9 hSw; (try dsimp only at hSw); go_simp; try with_reducible rfl)
          try simp only [Act.put, List.setIfInBounds_toArray, List.set_cons_zero, List.set_cons_succ]
          refine wpAnyH_take (i := 2) (oi := ⟨some 33, _, _, _, _, _⟩) (v := ?_) rfl (by kernel_rfl) (by kernel_rfl) (by kernel_rfl) (fun _ _ _ h => h) (Or.inl ⟨by rfl, ?_⟩) (by assumption) ?_
          rotate_left
          · (intro w9 hSw; (try dsimp only at hSw); go_simp; try with_reducible rfl)
          try simp only [Act.put, List.setIfInBounds_toArray, List.set_cons_zero, List.set_cons_succ]
          refine wpAnyH_take (i := 3) (oi := ⟨some 34, _, _, _, _, _⟩) (v := ?_) rfl (by kernel_rfl) (by kernel_rfl) (by kernel_rfl) (fun _ _ _ h => h) (Or.inl ⟨by rfl, ?_⟩) (by assumption) ?_
          rotate_left
          · (intro w9 hSw; (try dsimp only at hSw); go_simp; try with_reducible rfl)
          try simp only [Act.put, List.setIfInBounds_toArray, List.set_cons_zero, List.set_cons_succ]
          refine wpAnyH_take (i := 4) (oi := ⟨some 35, _, _, _, _, _⟩) (v := .int .i64 (j : Int)) rfl (by kernel_rfl) (by kernel_rfl) (by kernel_rfl) (fun _ _ _ h => h) (Or.inl ⟨by rfl, ?_⟩) (by assumption) ?_
          · (intro w9 hSw; (try dsimp only at hSw); go_simp; (try rw [hji]); rw [HWJ.out.1])
          try simp only [Act.put, List.setIfInBounds_toArray, List.set_cons_zero, List.set_cons_succ]
          refine wpAnyH_take (i := 5) (oi := ⟨some 36, _, _, _, _, _⟩) (v := .pointer (some ⟨w.heap.size, j * 4, none⟩)) rfl (by kernel_rfl) (by kernel_rfl) (by kernel_rfl) (fun _ _ _ h => h) (Or.inl ⟨by rfl, ?_⟩) (by assumption) ?_
          · (intro w9 hSw; (try dsimp only at hSw); go_simp)
          try simp only [Act.put, List.setIfInBounds_toArray, List.set_cons_zero, List.set_cons_succ]
          refine wpAnyH_take (i := 6) (oi := ⟨some 37, _, _, _, _, _⟩) (v := .agg #[uv x0, uv x1, uv x2, uv x3]) rfl (by kernel_rfl) (by kernel_rfl) (by kernel_rfl) (fun _ _ _ h => h) (Or.inl ⟨by rfl, ?_⟩) (by assumption) ?_
          · (intro w9 hSw; obtain ⟨q0, q1, q2, q3, -, -, -, -⟩ := HQ.out w9 hSw; (try dsimp only at hSw); go_simp)
          try simp only [Act.put, List.setIfInBounds_toArray, List.set_cons_zero, List.set_cons_succ]
          refine wpAnyH_take (i := 7) (oi := ⟨some 38, _, _, _, _, _⟩) (v := ?_) rfl (by kernel_rfl) (by kernel_rfl) (by kernel_rfl) (fun _ _ _ h => h) (Or.inl ⟨by rfl, ?_⟩) (by assumption) ?_
          rotate_left
          · (intro w9 hSw; (try dsimp only at hSw); go_simp; try with_reducible rfl)
          try simp only [Act.put, List.setIfInBounds_toArray, List.set_cons_zero, List.set_cons_succ]
          refine wpAnyH_take (i := 8) (oi := ⟨some 39, _, _, _, _, _⟩) (v := ?_) rfl (by kernel_rfl) (by kernel_rfl) (by kernel_rfl) (fun _ _ _ h => h) (Or.inl ⟨by rfl, ?_⟩) (by assumption) ?_
          rotate_left
          · (intro w9 hSw; (try dsimp only at hSw); go_simp; try with_reducible rfl)
          try simp only [Act.put, List.setIfInBounds_toArray, List.set_cons_zero, List.set_cons_succ]
          refine wpAnyH_take (i := 9) (oi := ⟨some 40, _, _, _, _, _⟩) (v := .int .i64 (m : Int)) rfl (by kernel_rfl) (by kernel_rfl) (by kernel_rfl) (fun _ _ _ h => h) (Or.inl ⟨by rfl, ?_⟩) (by assumption) ?_
          · (intro w9 hSw; (try dsimp only at hSw); go_simp; (try rw [hmi2]); rw [HWJ.out.2])
          try simp only [Act.put, List.setIfInBounds_toArray, List.set_cons_zero, List.set_cons_succ]
          refine wpAnyH_take (i := 10) (oi := ⟨some 41, _, _, _, _, _⟩) (v := .pointer (some ⟨w.heap.size, m * 4, none⟩)) rfl (by kernel_rfl) (by kernel_rfl) (by kernel_rfl) (fun _ _ _ h => h) (Or.inl ⟨by rfl, ?_⟩) (by assumption) ?_
          · (intro w9 hSw; (try dsimp only at hSw); go_simp)
          try simp only [Act.put, List.setIfInBounds_toArray, List.set_cons_zero, List.set_cons_succ]
          refine wpAnyH_take (i := 11) (oi := ⟨some 42, _, _, _, _, _⟩) (v := .agg #[uv y0, uv y1, uv y2, uv y3]) rfl (by kernel_rfl) (by kernel_rfl) (by kernel_rfl) (fun _ _ _ h => h) (Or.inl ⟨by rfl, ?_⟩) (by assumption) ?_
          · (intro w9 hSw; obtain ⟨-, -, -, -, q0, q1, q2, q3⟩ := HQ.out w9 hSw; (try dsimp only at hSw); go_simp)
          try simp only [Act.put, List.setIfInBounds_toArray, List.set_cons_zero, List.set_cons_succ]
          refine wpAnyH_take (i := 12) (oi := ⟨some 43, _, _, _, _, _⟩) (v := ?_) rfl (by kernel_rfl) (by kernel_rfl) (by kernel_rfl) (fun _ _ _ h => h) (Or.inl ⟨by rfl, ?_⟩) (by assumption) ?_
          rotate_left
          · (intro w9 hSw; (try dsimp only at hSw); go_simp; try with_reducible rfl)
          try simp only [Act.put, List.setIfInBounds_toArray, List.set_cons_zero, List.set_cons_succ]
          refine wpAnyH_take (i := 13) (oi := ⟨some 44, _, _, _, _, _⟩) (v := ?_) rfl (by kernel_rfl) (by kernel_rfl) (by kernel_rfl) (fun _ _ _ h => h) (Or.inl ⟨by rfl, ?_⟩) (by assumption) ?_
          rotate_left
          · (intro w9 hSw; (try dsimp only at hSw); go_simp; try with_reducible rfl)
          try simp only [Act.put, List.setIfInBounds_toArray, List.set_cons_zero, List.set_cons_succ]
          refine wpAnyH_take (i := 14) (oi := ⟨some 45, _, _, _, _, _⟩) (v := ?_) rfl (by kernel_rfl) (by kernel_rfl) (by kernel_rfl) (fun _ _ _ h => h) (Or.inl ⟨by rfl, ?_⟩) (by assumption) ?_
          rotate_left
          · (intro w9 hSw; (try dsimp only at hSw); go_simp; try with_reducible rfl)
          try simp only [Act.put, List.setIfInBounds_toArray, List.set_cons_zero, List.set_cons_succ]
          refine wpAnyH_ready (rs := [15]) (by kernel_rfl) (by simp) ?_
          refine AllReadyH.cons (o := ⟨some 46, _, _, _, _, _⟩) rfl (fun K9 hK9 => ?_) AllReadyH.nil
          go_simp
          go_at_call 121
          refine (HSC.out _ HX0.out).mono ?_
          rintro e x15 ⟨rfl, hb15⟩
          have hS15 : Kn x15 w.heap.size N (i * 4) := HK0.out.later hb15
          go_wp2_with fail
          refine hK9.out _ _ ?_ (fun hHeld => ?_)
          · assumption
          clear hK9 K9
          try simp only [Act.put, List.setIfInBounds_toArray, List.set_cons_zero, List.set_cons_succ]
          refine wpAnyH_ready (rs := [16]) (by kernel_rfl) (by simp) ?_
          refine AllReadyH.cons (o := ⟨some 47, _, _, _, _, _⟩) rfl (fun K9 hK9 => ?_) AllReadyH.nil
          go_simp
          go_at_call 120
          refine (HXR.out _).mono ?_
          rintro e x16 ⟨rfl, hb16⟩
          have hS16 : Kn x16 w.heap.size N (i * 4) := hS15.later hb16
          go_wp2_with fail
          refine hK9.out _ _ ?_ (fun hHeld => ?_)
          · assumption
          clear hK9 K9
          try simp only [Act.put, List.setIfInBounds_toArray, List.set_cons_zero, List.set_cons_succ]
          refine wpAnyH_ready (rs := [17]) (by kernel_rfl) (by simp) ?_
          refine AllReadyH.cons (o := ⟨some 48, _, _, _, _, _⟩) rfl (fun K9 hK9 => ?_) AllReadyH.nil
          go_simp
          refine hK9.out _ _ ?_ (fun hHeld => ?_)
          · exact hS16.later ((Below.refl _ _).alloc (Nat.le_refl _) _)
          clear hK9 K9
          try simp only [Act.put, List.setIfInBounds_toArray, List.set_cons_zero, List.set_cons_succ]
          refine wpAnyH_ready (rs := [18]) (by kernel_rfl) (by simp) ?_
          refine AllReadyH.cons (o := ⟨some 49, _, _, _, _, _⟩) rfl (fun K9 hK9 => ?_) AllReadyH.nil
          have HB17 := Lib.hid (((HB0.out.below hb15).below hb16).alloc (.cells #[uv n0, uv n1, uv n2, uv n3] 89))
          have hb17 := ba (bt (bt hb0 hb15) hb16) (.cells #[uv n0, uv n1, uv n2, uv n3] 89)
          have HP17 := Lib.hid (HP.out _ _ HB17.out)
          have hb18 := bw hb17 (Nat.le_refl w.heap.size) (i * 4) [uv n0, uv n1, uv n2, uv n3]
          refine step_append_room rfl (.tmp 31) (.tmp 48) 129 rfl 89 i0 4 Tryz.underlying129 hi hz1 w.heap.size 0 i many (by rfl) ⟨x16.heap.size, 0, none⟩ 1 1 [uv n0, uv n1, uv n2, uv n3] (by rfl) rfl (news_new x16 [uv n0, uv n1, uv n2, uv n3] 89) (uvs_one [n0, n1, n2, n3]) (by omega) (by rw [Nat.zero_add]; exact HSP.out _ _ HB17.out) ?_
          simp only [Act.put, List.setIfInBounds_toArray, List.set_cons_zero, List.set_cons_succ, Nat.zero_add]
          refine hK9.out _ _ ?_ (fun hHeld => ?_)
          · exact HKN.out _ _ HP17.out
          clear hK9 K9
          try simp only [Act.put, List.setIfInBounds_toArray, List.set_cons_zero, List.set_cons_succ]
          refine wpAnyH_take (i := 19) (oi := ⟨some 7, _, _, _, _, _⟩) (v := ?_) rfl (by kernel_rfl) (by kernel_rfl) (by kernel_rfl) (fun _ _ _ h => h) (Or.inl ⟨by rfl, ?_⟩) (by assumption) ?_
          rotate_left
          · (intro w9 hSw; (try dsimp only at hSw); go_simp; try with_reducible rfl)
          try simp only [Act.put, List.setIfInBounds_toArray, List.set_cons_zero, List.set_cons_succ]
          refine wpAnyH_done (by kernel_rfl) ?_ _
          have hq4 : i * 4 + 4 = (i + 1) * 4 := by omega
          rw [hq4] at HP17
          clear hHeld HQ HK0 HKN HSC HXR HX0 HB0 HB17 hb17 HSP HP hS15 hS16 hb15 hb16
          generalize ((x16.alloc (Obj.cells #[uv n0, uv n1, uv n2, uv n3] 89)).setCells w.heap.size (i * 4) [uv n0, uv n1, uv n2, uv n3]) = w9 at HP17 hb18
          go_wp2_with fail
          exact ⟨⟨i + 1, by omega, by omega, by go_num, rfl, HP17, hb18⟩, by simp [intOf]; omega⟩
        · obtain rfl : i = many := by omega
          have hB := B.out
          rw [cutL_all HN.out HZ.out] at hB
          have HBN := Lib.hid hB
          clear hB B
          go_wp2_with fail
          go_ret
          exact ⟨_, rfl, Nat.le_refl _, HBN.out, hb⟩
end Go.Proofs.YtcecjoodlmpgnaaGreat
