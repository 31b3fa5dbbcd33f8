/- The contract of the reference's Items. -/
import Derived.Test.YtnehodipblabbaaQSlot
import Derived.Test.YtnehodipblabbaaQClone
import Derived.Deep.DeepCutAuto
import Derived.Deep.CutRange
namespace Go.Proofs.Ytnehodipblabbaa
open Go.RowKit

/-- What is told of a round's slots, so many of them. -/
def qpart (L : List (List UInt8)) (n f k j : Nat) : List (List UInt8) := if qs n f k < j then qitems L f k ++ [qat L f k] else qitems L f k
theorem qpart_zero (L : List (List UInt8)) (n f k : Nat) : qpart L n f k 0 = qitems L f k := if_neg (by omega)
theorem qpart_all {L : List (List UInt8)} {n f k : Nat} (h : 1 ≤ n) : qpart L n f k n = qitems L f (k + 1) := by
  unfold qpart
  rw [if_pos (qs_lt h), qitems_more]
theorem qpart_yes {L : List (List UInt8)} {n f k j : Nat} (hl : L.length = n) (h : j = qs n f k) : qpart L n f k (j + 1) = qpart L n f k j ++ [L.getD j []] := by
  unfold qpart
  rw [if_pos (by omega), if_neg (by omega)]
  subst h
  subst hl
  rfl
theorem qpart_no {L : List (List UInt8)} {n f k j : Nat} (h : ¬ j = qs n f k) : qpart L n f k (j + 1) = qpart L n f k j := by
  unfold qpart
  by_cases h2 : qs n f k < j
  · rw [if_pos h2, if_pos (by omega)]
  · rw [if_neg h2, if_neg (by omega)]
theorem qpart_len (L : List (List UInt8)) (n f k j : Nat) : (qpart L n f k j).length ≤ k + 1 := by
  unfold qpart
  split
  · rw [List.length_append, qitems_len]; exact Nat.le_refl _
  · rw [qitems_len]; omega

set_option maxRecDepth 100000 in
set_option maxHeartbeats 8000000 in
theorem ritems_any (A : Option Addr) (n c f m : Nat) (L : List (List UInt8)) (w : World) (hM : QM w A n c L) (h1 : 1 ≤ n) (h2 : n ≤ 64) (hf : f < n) (hm : m ≤ n) :
    Calls Try.prog 17 #[qv A n c (f : Int) (m : Int)] w fun e w' => ∃ g' c', e = .returned (.slice (some ⟨g', 0, none⟩) m c') ∧ w'.ownsRow w.heap.size 9 1 (.slice (some ⟨g', 0, none⟩) m c') m ((qitems L f m).map sv) ∧ Below w.heap.size w w' := by
  obtain ⟨ti, hi, hz0, hz1, hz2⟩ := info_parts infoS
  have HM := Lib.hid hM
  have HP := Lib.hid (fun j W (hj : j < n) => place_any A n c f j (m : Int) W (by omega) hf hj)
  have HQ := Lib.hid (fun j (hj : j < n) k (hk : k < n) => (⟨fun e => by rw [e, qp_qs hf hk], fun e => by rw [← e, qs_qp hf hj]⟩ : j = qs n f k ↔ qp n f j = k))
  have HK : Hid (Blk ((qbox w A n c (f : Int) (m : Int)).alloc (.cells #[] 9)) w.heap.size 24 (qcs A n c (f : Int) (m : Int))) := Lib.hid ((qbox_blk w A n c f m).alloc _)
  have HO : Hid (((qbox w A n c (f : Int) (m : Int)).alloc (.cells #[] 9)).ownsRow (w.heap.size + 1) 9 1 (.slice (some ⟨w.heap.size + 1, 0, none⟩) 0 0) 0 []) := Lib.hid (by
    have := Blk.new (qbox w A n c (f : Int) (m : Int)) 9 #[]
    simp only [World.size_alloc] at this
    exact qown_nil this (Nat.le_refl _))
  have HB : Hid (w.heap.size + 1 ≤ ((qbox w A n c (f : Int) (m : Int)).alloc (.cells #[] 9)).heap.size ∧ Below w.heap.size w ((qbox w A n c (f : Int) (m : Int)).alloc (.cells #[] 9))) := Lib.hid ⟨by simp, ba (qbox_below w A n c f m) _⟩
  have HALL := Lib.hid (fun k => qpart_all (L := L) (n := n) (f := f) (k := k) h1)
  have HZERO := Lib.hid (fun k => qpart_zero L n f k)
  have HPL := Lib.hid (fun k j => qpart_len L n f k j)
  have HML := Lib.hid hM.len
  clear hM hf
  go_enter Try.func17, Try.ntmps17
  go_upto_region 2 with fail
  generalize (qbox w A n c (f : Int) (m : Int)).alloc (.cells #[] 9) = w3 at *
  go_wp2_with fail
  go_loopw [3, 4] (fun ov iv wr => ∃ (k g5 c5 : Nat), k ≤ m ∧ iv = .int .i64 (k : Int) ∧ ov = .slice (some ⟨g5, 0, none⟩) k c5 ∧ Hid (wr.ownsRow (w.heap.size + 1) 9 1 (.slice (some ⟨g5, 0, none⟩) k c5) k ((qitems L f k).map sv)) ∧ Hid (Blk wr w.heap.size 24 (qcs A n c (f : Int) (m : Int))) ∧ Hid (w.heap.size + 1 ≤ wr.heap.size ∧ Below w.heap.size w wr)) (fun _ i _ => m - (intOf i).toNat)
  case atStart => exact ⟨0, w.heap.size + 1, 0, Nat.zero_le _, rfl, rfl, HO, HK, HB⟩
  case round =>
    clear HB HK HO
    obtain ⟨k, g5, c5, hk, rfl, rfl, HO, HK, HB⟩ := hrel
    obtain ⟨⟨q0, q1, q2⟩, _⟩ := qcells HK.out
    by_cases hlt : k < m
    · have i0 : (k : Int) < (m : Int) := by omega
      have hkn : k < n := by omega
      have HO1 : Hid (∃ T, T = qpart L n f k 0 ∧ T.length = k ∧ wr.ownsRow (w.heap.size + 1) 9 1 (.slice (some ⟨g5, 0, none⟩) k c5) k (T.map sv)) := Lib.hid ⟨_, rfl, by rw [HZERO.out, qitems_len], by rw [HZERO.out]; exact HO.out⟩
      clear HO
      go_wp2_with fail
      clear q0 q1 q2
      go_loopw [3, 17] (fun ov jv wi => ∃ (j t g7 c7 : Nat), j ≤ n ∧ jv = .int .i64 (j : Int) ∧ ov = .slice (some ⟨g7, 0, none⟩) t c7 ∧ Hid (∃ T, T = qpart L n f k j ∧ T.length = t ∧ wi.ownsRow (w.heap.size + 1) 9 1 (.slice (some ⟨g7, 0, none⟩) t c7) t (T.map sv)) ∧ Hid (Blk wi w.heap.size 24 (qcs A n c (f : Int) (m : Int))) ∧ Hid (w.heap.size + 1 ≤ wi.heap.size ∧ Below w.heap.size w wi)) (fun _ j _ => n - (intOf j).toNat)
      case atStart => exact ⟨0, k, g5, c5, Nat.zero_le _, rfl, rfl, HO1, HK, HB⟩
      case round =>
        clear HB HK HO1
        obtain ⟨j, t, g7, c7, hj, rfl, rfl, HO, HK, HB⟩ := hrel
        obtain ⟨⟨q0, q1, q2⟩, _⟩ := qcells HK.out
        by_cases hlt2 : j < n
        · obtain ⟨g, off, rfl, s0⟩ := (HM.out.later HB.out.2).row j (by rw [HM.out.len]; exact hlt2)
          have HP1 := Lib.hid (fun W => HP.out j W hlt2)
          have j0 : (0 : Int) ≤ (j : Int) := by omega
          have j1 : (j : Int) < (n : Int) := by omega
          have hq := HQ.out j hlt2 k hkn
          by_cases hjk : j = qs n f k
          · have HT := Lib.hid (qpart_yes (L := L) HML.out hjk)
            rw [hq.1 hjk] at HP1
            have j2 : ((k : Int) == (k : Int)) = true := by simp
            clear hjk hq
            generalize L.getD j [] = x at s0 HT
            obtain ⟨T, hT1, hT2, hT3⟩ := HO.out
            have HT4 : Hid (T ++ [x] = qpart L n f k (j + 1) ∧ (T ++ [x]).length = t + 1 ∧ t ≤ 65) := Lib.hid ⟨by rw [HT.out, hT1], by rw [List.length_append, hT2]; rfl, by have := HPL.out k j; rw [← hT1, hT2] at this; omega⟩
            have HO2 := Lib.hid hT3
            clear hT1 hT2 hT3 HO HT
            go_wp2_with fail
            refine (HP1.out _).mono ?_
            rintro e w4 ⟨rfl, hb4⟩
            have hownA := own_later HO2.out (bt (Below.refl _ _) hb4 |>.alloc (hb4.size) (.cells #[sv x] 9))
            have hnews := World.news_of_block (heap_alloc_new w4 (.cells #[sv x] 9))
            have K2 := Lib.hid ((HK.out.below hb4).alloc (.cells #[sv x] 9))
            have HB2 := Lib.hid (ba (bt HB.out.2 hb4) (.cells #[sv x] 9))
            have Z4 := Lib.hid (Nat.le_trans HB.out.1 hb4.size)
            have ht65 := HT4.out.2.2
            clear q0 q1 q2 hb4 s0
            go_wp2_with (at_builtin; refine wpList_append_own _ rfl _ _ 22 rfl (w.heap.size + 1) 9 ti _ 1 16 Try.underlying22 hi hz0 hz1 hz2 rfl (by decide) _ _ _ rfl hownA ⟨w4.heap.size, 0, none⟩ 1 1 [sv x] rfl rfl hnews (by simp [Value.oneCell']) (by unfold maxLen; omega) (by omega) (by have := Z4.out; simp; omega) ?_; intro v5 w5 hown5 hgrow5 _; obtain ⟨g8, c8, rfl⟩ := ownsRow_succ hown5)
            have K3 := Lib.hid (Blk.grown K2.out hgrow5 (fun e => by have := (hownA.lt _ e.symm).1; omega))
            have z5 := hgrow5.size
            simp only [World.size_alloc] at z5
            have HB3 : Hid (w.heap.size + 1 ≤ w5.heap.size ∧ Below w.heap.size w w5) := Lib.hid ⟨by have := Z4.out; omega, HB2.out.grown hgrow5 (by have := Z4.out; simp; omega) (fun k e => by have := (hownA.lt k e).1; omega)⟩
            have HO3 : Hid (∃ T, T = qpart L n f k (j + 1) ∧ T.length = t + 1 ∧ w5.ownsRow (w.heap.size + 1) 9 1 (.slice (some ⟨g8, 0, none⟩) (t + 1) c8) (t + 1) (T.map sv)) := Lib.hid ⟨_, HT4.out.1, HT4.out.2.1, by rw [List.map_append]; exact hown5⟩
            exact ⟨⟨j + 1, t + 1, g8, c8, by omega, by go_num, rfl, HO3, K3, HB3⟩, by simp [intOf]; omega⟩
          · have HT := Lib.hid (qpart_no (L := L) hjk)
            obtain ⟨p, hp⟩ : ∃ p, qp n f j = p := ⟨_, rfl⟩
            rw [hp] at HP1 hq
            have j2 : ((p : Int) == (k : Int)) = false := by
              simp only [beq_eq_false_iff_ne]
              intro e
              exact hjk (hq.2 (by omega))
            clear hjk hq hp
            generalize L.getD j [] = x at s0
            go_wp2_with fail
            refine (HP1.out _).mono ?_
            rintro e w4 ⟨rfl, hb4⟩
            have K3 := Lib.hid (HK.out.below hb4)
            have HB3 : Hid (w.heap.size + 1 ≤ w4.heap.size ∧ Below w.heap.size w w4) := Lib.hid ⟨Nat.le_trans HB.out.1 hb4.size, bt HB.out.2 hb4⟩
            have HO3 : Hid (∃ T, T = qpart L n f k (j + 1) ∧ T.length = t ∧ w4.ownsRow (w.heap.size + 1) 9 1 (.slice (some ⟨g7, 0, none⟩) t c7) t (T.map sv)) := Lib.hid (by
              obtain ⟨T, hT1, hT2, hT3⟩ := HO.out
              exact ⟨T, by rw [HT.out, hT1], hT2, own_later hT3 hb4⟩)
            clear q0 q1 q2 hb4 s0
            go_wp2
            exact ⟨⟨j + 1, t, g7, c7, by omega, by go_num, rfl, HO3, K3, HB3⟩, by simp [intOf]; omega⟩
        · obtain rfl : j = n := by omega
          obtain ⟨T, hT1, hT2, hT3⟩ := HO.out
          rw [HALL.out] at hT1
          obtain rfl : t = k + 1 := by rw [← hT2, hT1, qitems_len]
          rw [hT1] at hT3
          have HO3 := Lib.hid hT3
          clear hT1 hT2 hT3 HO q0 q1 q2
          go_wp2
          exact ⟨⟨k + 1, g7, c7, by omega, by go_num, rfl, HO3, HK, HB⟩, by simp [intOf]; omega⟩
    · obtain rfl : k = m := by omega
      go_wp2
      go_ret
      exact ⟨g5, c5, rfl, own_base' HO.out (by omega), HB.out.2⟩
end Go.Proofs.Ytnehodipblabbaa
