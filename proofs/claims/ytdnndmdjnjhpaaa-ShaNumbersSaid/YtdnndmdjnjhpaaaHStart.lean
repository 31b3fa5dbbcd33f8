/- The contracts of Start and Keys. -/
import Derived.Test.YtdnndmdjnjhpaaaHNew
import Derived.Test.YtdnndmdjnjhpaaaHMixed
namespace Go.Proofs.Ytdnndmdjnjhpaaa
open Go.RowKit

set_option maxRecDepth 100000 in
set_option maxHeartbeats 1000000 in
theorem cstart_any (w : World) : Calls Try.prog 8 #[] w fun e w' => ∃ g, e = .returned (.slice (some ⟨g, 0, none⟩) 8 8) ∧ w.heap.size ≤ g ∧ Blk w' g 40 (startL.map wv).toArray ∧ Below w.heap.size w w' := by
  have HF : Hid (∀ W, Calls Try.prog 23 #[] W fun e w' => e = .returned (.agg (startL.map wv).toArray) ∧ Below W.heap.size W w') := Lib.hid start_any
  have HONE := Lib.hid (words_one startL)
  have HLEN : Hid ((startL.map wv).length = 8) := Lib.hid rfl
  have HZS := Lib.hid (zrow_size startL 8 0 (by omega) rfl)
  obtain ⟨L, hL⟩ : ∃ L, startL.map wv = L := ⟨_, rfl⟩
  rw [hL] at HF HONE HLEN ⊢
  clear hL
  go_enter Try.func8, Try.ntmps8
  go_wp2_with fail
  refine (HF.out _).mono ?_
  rintro e w1 ⟨rfl, hb1⟩
  have z1 := hb1.size
  have HZ := Lib.hid (Blk.new w1 40 (zrow startL 8 0))
  go_wp2_with (refine wpList_store_mid rfl _ _ _ rfl _ _ L.toArray rfl rfl (HZ.out.there (by rw [List.size_toArray, HLEN.out, HZS.out]; exact Nat.le_refl _)) (by rw [List.size_toArray, HLEN.out]; kernel_rfl) (all_oneCell_toArray HONE.out) ?_)
  generalize hw2 : World.setCells (World.alloc w1 (Obj.cells _ 40)) w1.heap.size 0 L = w2
  have HW : Hid (Blk w2 w1.heap.size 40 L.toArray) := Lib.hid (by rw [← hw2]; exact HZ.out.whole L (by rw [HLEN.out, HZS.out]))
  have hB2 : Below w.heap.size w w2 := by rw [← hw2]; exact bw (ba hb1 _) z1 _ _
  clear hw2 HZ
  go_wp2_with fail
  go_ret
  exact ⟨_, rfl, z1, HW.out, hB2⟩

set_option maxRecDepth 100000 in
set_option maxHeartbeats 1000000 in
theorem ckeys_any (w : World) : Calls Try.prog 9 #[] w fun e w' => ∃ g, e = .returned (.slice (some ⟨g, 0, none⟩) 64 64) ∧ w.heap.size ≤ g ∧ Blk w' g 43 (keysL.map wv).toArray ∧ Below w.heap.size w w' := by
  have HF : Hid (∀ W, Calls Try.prog 24 #[] W fun e w' => e = .returned (.agg (keysL.map wv).toArray) ∧ Below W.heap.size W w') := Lib.hid keys_any
  have HONE := Lib.hid (words_one keysL)
  have HLEN : Hid ((keysL.map wv).length = 64) := Lib.hid rfl
  have HZS := Lib.hid (zrow_size keysL 64 0 (by omega) rfl)
  obtain ⟨L, hL⟩ : ∃ L, keysL.map wv = L := ⟨_, rfl⟩
  rw [hL] at HF HONE HLEN ⊢
  clear hL
  go_enter Try.func9, Try.ntmps9
  go_wp2_with fail
  refine (HF.out _).mono ?_
  rintro e w1 ⟨rfl, hb1⟩
  have z1 := hb1.size
  have HZ := Lib.hid (Blk.new w1 43 (zrow keysL 64 0))
  go_wp2_with (refine wpList_store_mid rfl _ _ _ rfl _ _ L.toArray rfl rfl (HZ.out.there (by rw [List.size_toArray, HLEN.out, HZS.out]; exact Nat.le_refl _)) (by rw [List.size_toArray, HLEN.out]; kernel_rfl) (all_oneCell_toArray HONE.out) ?_)
  generalize hw2 : World.setCells (World.alloc w1 (Obj.cells _ 43)) w1.heap.size 0 L = w2
  have HW : Hid (Blk w2 w1.heap.size 43 L.toArray) := Lib.hid (by rw [← hw2]; exact HZ.out.whole L (by rw [HLEN.out, HZS.out]))
  have hB2 : Below w.heap.size w w2 := by rw [← hw2]; exact bw (ba hb1 _) z1 _ _
  clear hw2 HZ
  go_wp2_with fail
  go_ret
  exact ⟨_, rfl, z1, HW.out, hB2⟩
end Go.Proofs.Ytdnndmdjnjhpaaa
