/- The contracts of the reference's Push and Drop. -/
import Derived.Test.YtnehodipblabbaaQRItems
import Derived.Test.YtnehodipblabbaaQROf
import Derived.Test.YtnehodipblabbaaQPush
import Derived.Deep.RegionHeld3
import Derived.ChangeSlices
namespace Go.Proofs.Ytnehodipblabbaa
open Go.RowKit

theorem qslice_from (A : Option Addr) (L : List (List UInt8)) (n c k : Nat) (hl : L.length = n) (hk : k ≤ n) (hc : n ≤ c) :
    ∃ A' : Option Addr, (∀ W : World, (Instr.slice 22 (.slice A n c) (some (.int .i64 (k : Int))) none none).run Try.prog W = .ok (.slice A' (n - k) (c - k)) W) ∧ ∀ W, SR W A L → SR W A' (L.drop k) := by
  refine ⟨if c = k then A else A.map (·.add (k * 1)), fun W => ?_, fun W h => ?_⟩
  · rw [run_slice_l (P := Try.prog) W _ _ _ _ Try.underlying22 .i64 (k : Int) (by omega) (by omega)]
    go_simp
  · by_cases hkn : k = n
    · subst hkn
      rw [List.drop_of_length_le (by omega)]
      exact SR.nil _ _
    · obtain ⟨g, off, rfl, _⟩ := h k (by omega)
      rw [if_neg (by omega)]
      simp only [Option.map_some, Nat.mul_one]
      have := h.drop k
      rw [show (⟨g, off, none⟩ : Addr).add k = ⟨g, off + k, none⟩ from Go.WideShapes.add_plain _ _ _]
      exact this

set_option maxRecDepth 100000 in
set_option maxHeartbeats 4000000 in
theorem rpush_walk (A : Option Addr) (n c f m : Nat) (I T : List (List UInt8)) (s : List UInt8) (w : World) (hm : m < n) (hn : n ≤ 64)
    (HI : Hid (∀ W, Below w.heap.size w W → Calls Try.prog 17 #[qv A n c (f : Int) (m : Int)] W fun e w' => ∃ g' c', e = .returned (.slice (some ⟨g', 0, none⟩) m c') ∧ w'.ownsRow W.heap.size 9 1 (.slice (some ⟨g', 0, none⟩) m c') m (I.map sv) ∧ Below W.heap.size W w'))
    (HIL : Hid (I.length = m))
    (HO : Hid (∀ W A' c', SR W A' (I ++ [s]) → Calls Try.prog 26 #[.int .i64 (n : Int), .int .i64 (f : Int), .slice A' (m + 1) c'] W fun e w' => ∃ A' c', e = .returned (qv A' n c' (f : Int) ((m + 1 : Nat) : Int)) ∧ w'.ownsRow (W.heap.size + 1) 9 1 (.slice A' n c') n (T.map sv) ∧ Below W.heap.size W w'))
    (HTL : Hid (T.length = n)) :
    Calls Try.prog 18 #[qv A n c (f : Int) (m : Int), sv s] w fun e w' => ∃ A' c', e = .returned (qv A' n c' (f : Int) ((m + 1 : Nat) : Int)) ∧ QM w' A' n c' T ∧ Below w.heap.size w w' := by
  obtain ⟨ti, hti, hz0, hz1, hz2⟩ := info_parts infoS
  have HB := Lib.hid (qtwo_below w A n c (f : Int) (m : Int))
  have HK := Lib.hid (qtwo_blk w A n c (f : Int) (m : Int))
  have HR := Lib.hid (qtwo_out w A n c (f : Int) (m : Int))
  go_enter Try.func18, Try.ntmps18
  go_wp2_with fail
  refine (HI.out _ HB.out).mono ?_
  rintro e w1 ⟨g1, c1, rfl, hown, hb1⟩
  have B1 := Lib.hid (ba (bt HB.out hb1) (.cells #[sv s] 9))
  have K1 := Lib.hid ((HK.out.below hb1).alloc (.cells #[sv s] 9))
  have R1 := Lib.hid ((HR.out.below hb1).alloc (.cells #[sv s] 9))
  have hz := (HR.out.below hb1).lt
  have hownA := own_base' (hown.alloc (.cells #[sv s] 9)) (show w.heap.size + 2 ≤ _ by simp)
  have hnews := World.news_of_block (heap_alloc_new w1 (.cells #[sv s] 9))
  have z1 : w.heap.size + 2 ≤ w1.heap.size := by have := hb1.size; simpa using this
  clear hb1 hown
  have HFIN : Hid (∀ (w5 : World) (g6 c6 : Nat), w5.ownsRow (w.heap.size + 2) 9 1 (.slice (some ⟨g6, 0, none⟩) (m + 1) c6) (m + 1) (I.map sv ++ [sv s]) → (w1.alloc (.cells #[sv s] 9)).grownBy w5 (Value.slice (some ⟨g1, 0, none⟩) m c1).ownBlock → Below w.heap.size w w5 ∧ Blk w5 w.heap.size 24 (qcs A n c (f : Int) (m : Int)) ∧ Blk w5 (w.heap.size + 1) 24 (qcs none 0 0 0 0) ∧ SR w5 (some ⟨g6, 0, none⟩) (I ++ [s])) := Lib.hid (fun w5 g6 c6 h5 hg5 => by
    refine ⟨B1.out.grown hg5 (by simp; omega) (fun k e => by have := (hownA.lt k e).1; omega), Blk.grown K1.out hg5 (fun e => by have := (hownA.lt _ e.symm).1; omega), Blk.grown R1.out hg5 (fun e => by have := (hownA.lt _ e.symm).1; omega), ?_⟩
    rw [show I.map sv ++ [sv s] = (I ++ [s]).map sv by simp] at h5
    exact own_SR h5 (by rw [List.length_append, HIL.out]; rfl))
  go_wp2_with (at_builtin; refine wpList_append_own _ rfl _ _ 22 rfl (w.heap.size + 2) 9 ti _ 1 16 Try.underlying22 hti hz0 hz1 hz2 rfl (by decide) _ _ _ rfl hownA ⟨w1.heap.size, 0, none⟩ 1 1 [sv s] rfl rfl hnews (by simp [Value.oneCell']) (by unfold maxLen; omega) (by omega) (by simp; omega) ?_; intro v4 w5 hown5 hgrow5 _; obtain ⟨g6, c6, rfl⟩ := ownsRow_succ hown5; have HE := Lib.hid (HFIN.out w5 g6 c6 hown5 hgrow5); clear hown5 hgrow5; obtain ⟨⟨q0, q1, q2⟩, _⟩ := qcells HE.out.2.1)
  refine (HO.out _ _ _ HE.out.2.2.2).mono ?_
  rintro e w6 ⟨A6, c7, rfl, hM6, hb6⟩
  have R6 := HE.out.2.2.1.below hb6
  have B6 := bt HE.out.1 hb6
  have hz5 := HE.out.2.2.1.lt
  obtain ⟨⟨r0, r1, r2⟩, p0, p1, p2⟩ := qcells R6
  go_wp2
  refine bodyPost_ret (ring1_result rfl (((R6.set_ 0 _).set_ 1 _).set_ 2 _)) rfl ?_
  exact ⟨A6, c7, rfl, own_QM (qown_far (qown_far (qown_far hM6 (by simp; omega) _) (by simp; omega) _) (by simp; omega) _) HTL.out (by omega), bs (bs (bs B6 (by omega) _) (by omega) _) (by omega) _⟩

theorem rpush_any (A : Option Addr) (n c f m : Nat) (L : List (List UInt8)) (s : List UInt8) (w : World) (hM : QM w A n c L) (hr : QR L f m) (hm : m < n) :
    Calls Try.prog 18 #[qv A n c (f : Int) (m : Int), sv s] w fun e w' => ∃ A' c', e = .returned (qv A' n c' (f : Int) ((m + 1 : Nat) : Int)) ∧ QM w' A' n c' (qpush L f m s) ∧ Below w.heap.size w w' := by
  have hl := hM.len
  have h1 := hr.lo
  have h2 := hr.hi
  have h3 := hr.start
  have h5 := hr.push_of (by omega) s
  rw [hl] at h1 h2 h3 h5
  refine rpush_walk A n c f m (qitems L f m) (qpush L f m s) s w hm h2 (Lib.hid fun W hb => ritems_any A n c f m L W (hM.later hb) h1 h2 h3 (by omega)) (Lib.hid (qitems_len _ _ _)) (Lib.hid fun W A' c' hA => ?_) (Lib.hid (by rw [qpush_len, hl]))
  have := rof_any A' n c' f (m + 1) (qitems L f m ++ [s]) W hA (by rw [List.length_append, qitems_len]; rfl) h1 h2 h3
  rwa [h5] at this

end Go.Proofs.Ytnehodipblabbaa
