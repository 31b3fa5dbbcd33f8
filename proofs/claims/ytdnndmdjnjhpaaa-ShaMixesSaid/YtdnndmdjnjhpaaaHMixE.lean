/- The contract of Mix. -/
import Derived.Test.YtdnndmdjnjhpaaaHNew
import Derived.Test.YtdnndmdjnjhpaaaHMixed
import Derived.Laws.Cover3
namespace Go.Proofs.Ytdnndmdjnjhpaaa
open Go.RowKit

set_option maxRecDepth 100000 in
set_option maxHeartbeats 2000000 in
theorem mix_eight (s0 s1 s2 s3 s4 s5 s6 s7 : Nat) (g off c : Nat) (B : List UInt8) (w : World) (hE : Eight w g off s0 s1 s2 s3 s4 s5 s6 s7) (hs : ∀ x ∈ [s0, s1, s2, s3, s4, s5, s6, s7], x < 4294967296) (hB : B.length = 64) :
    Calls Try.prog 14 #[.slice (some ⟨g, off, none⟩) 8 c, .string ⟨B.toArray⟩] w fun e w' => ∃ q, e = .returned (.tuple #[.slice (some ⟨q, 0, none⟩) 8 8, .int .i64 0]) ∧ w.heap.size ≤ q ∧ Blk w' q 40 ((mixL [s0, s1, s2, s3, s4, s5, s6, s7] B).map wv).toArray ∧ Below w.heap.size w w' := by
  have HF : Hid (∀ W, Calls Try.prog 24 #[] W fun e w' => e = .returned (.agg (keysL.map wv).toArray) ∧ Below W.heap.size W w') := Lib.hid keys_any
  have HONE := Lib.hid (words_one keysL)
  have HLEN : Hid ((keysL.map wv).length = 64) := Lib.hid rfl
  have HZS := Lib.hid (zrow_size keysL 64 0 (by omega) rfl)
  have HMX : Hid (∀ (W : World) (kb : Nat), Blk W kb 43 (keysL.map wv).toArray → Calls Try.prog 25 #[.agg #[wv s0, wv s1, wv s2, wv s3, wv s4, wv s5, wv s6, wv s7], .string ⟨B.toArray⟩, .pointer (some ⟨kb, 0, none⟩)] W fun e w' => e = .returned (.agg ((mixL [s0, s1, s2, s3, s4, s5, s6, s7] B).map wv).toArray) ∧ Below W.heap.size W w') := Lib.hid fun W kb h => mixed_any s0 s1 s2 s3 s4 s5 s6 s7 B kb W hs hB h
  have HML : Hid (((mixL [s0, s1, s2, s3, s4, s5, s6, s7] B).map wv).length = 8) := Lib.hid (by rw [List.length_map, mixL_len])
  have HMO := Lib.hid (words_one (mixL [s0, s1, s2, s3, s4, s5, s6, s7] B))
  have HZT := Lib.hid (zrow_size startL 8 0 (by omega) rfl)
  obtain ⟨R, hR⟩ : ∃ R, (mixL [s0, s1, s2, s3, s4, s5, s6, s7] B).map wv = R := ⟨_, rfl⟩
  rw [hR] at HMX HML HMO ⊢
  obtain ⟨L, hL⟩ : ∃ L, keysL.map wv = L := ⟨_, rfl⟩
  rw [hL] at HF HONE HLEN HMX
  clear hL hR
  have hz := size_of B
  rw [hB] at hz
  have HB := Lib.hid hB
  have HE := Lib.hid hE
  clear hB hs hE
  go_enter Try.func14, Try.ntmps14
  go_wp2_with fail
  refine (HF.out _).mono ?_
  rintro e w1 ⟨rfl, hb1⟩
  have z1 := hb1.size
  have HZ := Lib.hid (Blk.new w1 43 (zrow keysL 64 0))
  go_wp2_with (refine wpList_store_mid rfl _ _ _ rfl _ _ L.toArray rfl rfl (HZ.out.there (by rw [List.size_toArray, HLEN.out, HZS.out]; exact Nat.le_refl _)) (by rw [List.size_toArray, HLEN.out]; kernel_rfl) (all_oneCell_toArray HONE.out) ?_)
  generalize hw2 : World.setCells (World.alloc w1 (Obj.cells _ 43)) w1.heap.size 0 L = w2
  have K2 : Hid (Blk w2 w1.heap.size 43 L.toArray) := Lib.hid (by rw [← hw2]; exact HZ.out.whole L (by rw [HLEN.out, HZS.out]))
  have hB2 : Below w.heap.size w w2 := by rw [← hw2]; exact bw (ba hb1 _) z1 _ _
  clear hw2 HZ
  obtain ⟨c0, c1, c2, c3, c4, c5, c6, c7⟩ := HE.out
  have d0 := cell_later hB2 c0
  have d1 := cell_later hB2 c1
  have d2 := cell_later hB2 c2
  have d3 := cell_later hB2 c3
  have d4 := cell_later hB2 c4
  have d5 := cell_later hB2 c5
  have d6 := cell_later hB2 c6
  have d7 := cell_later hB2 c7
  clear c0 c1 c2 c3 c4 c5 c6 c7
  have hsa : ∀ W : World, (Instr.arrayAt 40 (.slice (some ⟨g, off, none⟩) 8 c)).run Try.prog W = .ok (.pointer (some ⟨g, off, none⟩)) W := fun W => run_arrayAt W 40 25 8 _ 8 c Try.underlying40 (Nat.le_refl 8)
  go_wp2_with fail
  rw [hsa]
  simp only [Result.andThen]
  rw [Oper.upon_value]
  clear hsa
  go_wp2_with fail
  refine (HMX.out _ _ K2.out).mono ?_
  rintro e w3 ⟨rfl, hb3⟩
  clear d0 d1 d2 d3 d4 d5 d6 d7
  have hB3 := bt hB2 hb3
  have z3 := hB3.size
  have HZ3 := Lib.hid (Blk.new w3 40 (zrow startL 8 0))
  go_wp2_with (refine wpList_store_mid rfl _ _ _ rfl _ _ R.toArray rfl rfl (HZ3.out.there (by rw [List.size_toArray, HML.out, HZT.out]; exact Nat.le_refl _)) (by rw [List.size_toArray, HML.out]; kernel_rfl) (all_oneCell_toArray HMO.out) ?_)
  generalize hw4 : World.setCells (World.alloc w3 (Obj.cells _ 40)) w3.heap.size 0 R = w4
  have HW4 : Hid (Blk w4 w3.heap.size 40 R.toArray) := Lib.hid (by rw [← hw4]; exact HZ3.out.whole R (by rw [HML.out, HZT.out]))
  have hB4 : Below w.heap.size w w4 := by rw [← hw4]; exact bw (ba hB3 _) z3 _ _
  clear hw4 HZ3
  go_wp2_with fail
  go_ret2
  exact ⟨_, rfl, z3, HW4.out, hB4⟩

/-- Any eight words. -/
theorem eight_of (L : List Nat) (h : L.length = 8) : ∃ a b c d e f g i, L = [a, b, c, d, e, f, g, i] := by
  match L, h with
  | [a, b, c, d, e, f, g, i], _ => exact ⟨a, b, c, d, e, f, g, i, rfl⟩
theorem mix_any (A : Option Addr) (c : Nat) (L : List Nat) (B : List UInt8) (w : World) (hA : WR w A L) (hl : L.length = 8) (hs : ∀ x ∈ L, x < 4294967296) (hB : B.length = 64) :
    Calls Try.prog 14 #[.slice A 8 c, .string ⟨B.toArray⟩] w fun e w' => ∃ q, e = .returned (.tuple #[.slice (some ⟨q, 0, none⟩) 8 8, .int .i64 0]) ∧ w.heap.size ≤ q ∧ Blk w' q 40 ((mixL L B).map wv).toArray ∧ Below w.heap.size w w' := by
  obtain ⟨s0, s1, s2, s3, s4, s5, s6, s7, rfl⟩ := eight_of L hl
  obtain ⟨g, off, rfl, h0⟩ := hA 0 (by simp)
  have key : ∀ j, j < 8 → w.cell? ⟨g, off + j, none⟩ = some (wv (wn [s0, s1, s2, s3, s4, s5, s6, s7] j)) := fun j hj => by
    obtain ⟨g', off', e, h⟩ := hA j hj
    cases e
    exact h
  exact mix_eight s0 s1 s2 s3 s4 s5 s6 s7 g off c B w ⟨key 0 (by omega), key 1 (by omega), key 2 (by omega), key 3 (by omega), key 4 (by omega), key 5 (by omega), key 6 (by omega), key 7 (by omega)⟩ hs hB
end Go.Proofs.Ytdnndmdjnjhpaaa
