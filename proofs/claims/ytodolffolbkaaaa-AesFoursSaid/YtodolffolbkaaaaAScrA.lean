/- The contract of a word's scrambled. -/
import Derived.Test.YtodolffolbkaaaaAMixW
namespace Go.Proofs.Ytodolffolbkaaaa
open Go.RowKit

theorem pow2_any (n : Nat) (w : World) (hn : (n : Int) ≤ 1000) : Calls Try.prog 55 #[.int .u8 2, .int .i64 (n : Int)] w fun e w' => e = .returned (uv (pw8 n)) ∧ w = w' := by
  refine (pow_any 2 n w (by omega) (by omega) (by omega)).mono ?_
  rintro e w' ⟨rfl, rfl⟩
  have : uv (pw8 n) = .int .u8 ((pw 2 n : Nat) : Int) := by rw [← pw8_nat]
  rw [this]
  exact ⟨rfl, rfl⟩
theorem boxed_ex (a b c d : UInt8) (gb : Nat) (w : World) (hx : Blk w gb 5 bxs) :
    Calls Try.prog 45 #[.agg #[uv a, uv b, uv c, uv d], .slice (some ⟨gb, 0, none⟩) 256 256] w fun e w' => e = .returned (.agg #[uv (box8 a), uv (box8 b), uv (box8 c), uv (box8 d)]) ∧ Below w.heap.size w w' := boxed_any a b c d gb w hx

set_option maxRecDepth 100000 in
set_option maxHeartbeats 1000000 in
theorem scr_same (a b c d : UInt8) (i own gb : Nat) (w : World) (h0 : own = 4 ∨ own = 8) (h1 : i % own ≠ 0) (h2 : ¬ (own = 8 ∧ i % own = 4)) :
    Calls Try.prog 53 #[.agg #[uv a, uv b, uv c, uv d], .int .i64 (i : Int), .int .i64 (own : Int), .slice (some ⟨gb, 0, none⟩) 256 256] w fun e w' => e = .returned (.agg #[uv a, uv b, uv c, uv d]) ∧ Below w.heap.size w w' := by
  rcases h0 with rfl | rfl
  · have z0 : ((i : Int) % 4 == 0) = false := by simp; omega
    clear h1 h2
    go_enter Try.func53, Try.ntmps53
    go_wp2
    refine bodyPost_ret (v := .agg #[uv a, uv b, uv c, uv d]) (results_cell_row rfl _ _ _ _ _ _ _ rfl (Blk.newAt (by simp) _ _) Try.underlying43 rfl (by kernel_rfl)) rfl ?_
    exact ⟨rfl, ba (ba (Below.refl _ _) _) _⟩
  · have z0 : ((i : Int) % 8 == 0) = false := by simp; omega
    have z1 : ((i : Int) % 8 == 4) = false := by simp; omega
    clear h1 h2
    go_enter Try.func53, Try.ntmps53
    go_wp2
    refine bodyPost_ret (v := .agg #[uv a, uv b, uv c, uv d]) (results_cell_row rfl _ _ _ _ _ _ _ rfl (Blk.newAt (by simp) _ _) Try.underlying43 rfl (by kernel_rfl)) rfl ?_
    exact ⟨rfl, ba (ba (Below.refl _ _) _) _⟩

set_option maxRecDepth 100000 in
set_option maxHeartbeats 1000000 in
theorem scr_box (a b c d : UInt8) (i gb : Nat) (w : World) (hx : Blk w gb 5 bxs) (h2 : i % 8 = 4) :
    Calls Try.prog 53 #[.agg #[uv a, uv b, uv c, uv d], .int .i64 (i : Int), .int .i64 8, .slice (some ⟨gb, 0, none⟩) 256 256] w fun e w' => e = .returned (.agg #[uv (box8 a), uv (box8 b), uv (box8 c), uv (box8 d)]) ∧ Below w.heap.size w w' := by
  have z0 : ((i : Int) % 8 == 0) = false := by simp; omega
  have z1 : ((i : Int) % 8 == 4) = true := by simp; omega
  have HX := Lib.hid hx
  have HC := Lib.hid (boxed_ex a b c d gb)
  generalize box8 a = a' at HC ⊢
  generalize box8 b = b' at HC ⊢
  generalize box8 c = c' at HC ⊢
  generalize box8 d = d' at HC ⊢
  clear h2 hx
  go_enter Try.func53, Try.ntmps53
  go_wp2_with fail
  refine (HC.out _ ((HX.out.alloc _).alloc _)).mono ?_
  rintro e w1 ⟨rfl, hb⟩
  have G := Lib.hid (((Blk.new w 43 #[uv a, uv b, uv c, uv d]).alloc (.cells #[.int .u8 0, .int .u8 0, .int .u8 0, .int .u8 0] 43)).below hb)
  have R := Lib.hid ((Blk.newAt (w := w.alloc (.cells #[uv a, uv b, uv c, uv d] 43)) (g := w.heap.size + 1) (by simp) 43 #[.int .u8 0, .int .u8 0, .int .u8 0, .int .u8 0]).below hb)
  have hb1 : Below w.heap.size w w1 := bt (ba (ba (Below.refl _ _) _) _) hb
  clear hb HX HC
  have HONE := Lib.hid (uvs_one [a', b', c', d'])
  have HG2 := Lib.hid (G.out.whole ([a', b', c', d'].map uv) (by simp))
  have HR2 := Lib.hid (R.out.far_ (k := w.heap.size + 1) (g := w.heap.size) (by omega) 0 ([a', b', c', d'].map uv))
  simp only []
  go_upto_region 6 with (refine wpList_store_mid rfl _ _ _ rfl _ _ ([a', b', c', d'].map uv).toArray rfl rfl (G.out.there (by simp)) (by kernel_rfl) (all_oneCell_toArray HONE.out) ?_)
  generalize hw2 : World.setCells w1 w.heap.size 0 _ = w2
  rw [hw2] at HG2 HR2
  have hb2 : Below w.heap.size w w2 := by rw [← hw2]; exact bw hb1 (Nat.le_refl _) _ _
  clear hw2 G R hb1
  go_wp2_with (first | (refine wpList_load_row rfl _ _ rfl _ rfl _ _ _ _ HG2.out Try.underlying43 rfl (by kernel_rfl) ?_) | (refine wpList_store_mid rfl _ _ _ rfl _ _ ([a', b', c', d'].map uv).toArray rfl rfl (HR2.out.there (by simp)) (by kernel_rfl) (all_oneCell_toArray HONE.out) ?_))
  have hW := HR2.out.whole ([a', b', c', d'].map uv) (by simp)
  refine bodyPost_ret (v := .agg ([a', b', c', d'].map uv).toArray) (results_cell_row rfl _ _ _ _ _ _ _ rfl hW Try.underlying43 rfl (by kernel_rfl)) rfl ?_
  exact ⟨rfl, bw hb2 (by omega) _ _⟩

end Go.Proofs.Ytodolffolbkaaaa
