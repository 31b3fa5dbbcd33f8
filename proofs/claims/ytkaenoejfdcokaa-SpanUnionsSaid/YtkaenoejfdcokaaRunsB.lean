/- The reference's grown: a run, taken through a row as often as the row is long. -/
import Derived.Test.YtkaenoejfdcokaaRunsA
namespace Go.Proofs.Ytkaenoejfdcokaa
open Go.RowKit Go.Shelf

theorem Box2.drew {W : World} {B : Nat} {t : TypeId} {x y : Value} (h : Box2 W B t x y) : Box2 W.drew B t x y := h
theorem step_no {r p : Int × Int} (h : ¬ JoinsR r p) : stepR r p = r := by unfold stepR; rw [if_neg h]
theorem step_yes {r p : Int × Int} (h : JoinsR r p) : stepR r p = (min r.1 p.1, max r.2 (endOf p)) := by unfold stepR; rw [if_pos h]

set_option maxRecDepth 100000 in
set_option maxHeartbeats 8000000 in
theorem grown_is (L : List (Int × Int)) (hl : L.length ≤ maxLen) (g off c : Nat) (w : World) (hg : g < w.heap.size)
    (Hh : Hid (∀ j (hj : j < L.length), w.cell? ⟨g, off + j * 2, none⟩ = some (.int .u64 L[j].1) ∧ w.cell? ⟨g, off + j * 2 + 1, none⟩ = some (.int .u64 L[j].2)))
    (Ho : Hid (∀ p ∈ L, OkP p)) (r : Int × Int) (HR : Hid (RngR r)) :
    Calls Try.prog 40 #[.slice (some ⟨g, off, none⟩) L.length c, .agg #[.int .u64 r.1, .int .u64 r.2]] w fun e w' => e = .returned (.agg #[.int .u64 (growR L L.length r).1, .int .u64 (growR L L.length r).2]) ∧ Below w.heap.size w w' := by
  unfold maxLen at hl
  go_enter Try.func40, Try.ntmps40
  go_wp2
  have bR := (Box2.new w 49 (.int .u64 r.1) (.int .u64 r.2)).below ((Below.refl _ _).alloc (Nat.le_refl _) (.cells #[.int .u64 0, .int .u64 0] 49))
  have bC := Box2.new (w.alloc (.cells #[.int .u64 r.1, .int .u64 r.2] 49)) 49 (.int .u64 0) (.int .u64 0)
  rw [World.size_alloc] at bC
  go_loopw [9] (fun i wr => ∃ k : Nat, k ≤ L.length ∧ i = .int .i64 k ∧ Box2 wr w.heap.size 49 (.int .u64 (growR L k r).1) (.int .u64 (growR L k r).2) ∧ Box2 wr (w.heap.size + 1) 49 (.int .u64 0) (.int .u64 0) ∧ Below w.heap.size w wr) (fun i _ => L.length - (intOf i).toNat)
  case atStart => exact ⟨0, Nat.zero_le _, rfl, bR, bC, ba (ba (Below.refl _ _) _) _⟩
  case round =>
    clear bR bC
    obtain ⟨k, hk, rfl, bR, bC, hb⟩ := hrel
    have HK := Lib.hid (grow_rng Ho.out HR.out k)
    by_cases hlt : k < L.length
    · obtain ⟨q, hq⟩ : ∃ q, q = growR L k r := ⟨_, rfl⟩
      have HQ : Hid (L.foldl stepR q = growR L (k + 1) r) := by rw [hq]; exact rfl
      rw [← hq] at bR HK
      clear hq
      go_wp2
      go_loopw [13] (fun j wi => ∃ t : Nat, t ≤ L.length ∧ j = .int .i64 t ∧ Box2 wi w.heap.size 49 (.int .u64 ((L.take t).foldl stepR q).1) (.int .u64 ((L.take t).foldl stepR q).2) ∧ Box2 wi (w.heap.size + 1) 49 (.int .u64 0) (.int .u64 0) ∧ Below w.heap.size w wi) (fun j _ => L.length - (intOf j).toNat)
      case atStart => exact ⟨0, Nat.zero_le _, rfl, bR, bC, hb⟩
      case round =>
        obtain ⟨t, ht, rfl, bR, bC, hb⟩ := hrel
        have HT := Lib.hid (fold_rng (fun p hp => Ho.out p (List.mem_of_mem_take hp)) q HK.out : RngR ((L.take t).foldl stepR q))
        by_cases htl : t < L.length
        · have HS := Lib.hid (fold_succ L q t htl)
          obtain ⟨u, hu⟩ : ∃ u, u = (L.take t).foldl stepR q := ⟨_, rfl⟩
          rw [← hu] at bR HT HS
          clear hu
          have HP : Hid (OkP L[t]) := Ho.out _ (List.getElem_mem htl)
          have p0 := (hb.cell (p := ⟨g, off + t * 2, none⟩) hg).trans (Hh.out t htl).1
          have p1 := (hb.cell (p := ⟨g, off + t * 2 + 1, none⟩) hg).trans (Hh.out t htl).2
          obtain ⟨p, hp⟩ : ∃ p, p = L[t] := ⟨_, rfl⟩
          rw [← hp] at p0 p1 HP HS
          clear hp
          have r0 := bR.cell0
          have r1 := bR.cell1
          obtain ⟨o0, o1, o2⟩ := HP.out
          obtain ⟨g0, g1, g2⟩ := HT.out
          have y0 : w.heap.size < wr.heap.size := bR.lt
          have y1 : w.heap.size + 1 < wr.heap.size := bC.lt
          by_cases hj : JoinsR u p
          · have HJ := Lib.hid (step_yes hj)
            go_wp2_with fail
            refine (joins_yes _ HT.out HP.out hj).mono ?_
            rintro e w1 ⟨rfl, hb1⟩
            have bS := (Box2.new wr 24 (.int .u64 p.1) (.int .u64 p.2)).below hb1
            have bR1 := (bR.below ((Below.refl _ _).alloc (Nat.le_refl _) (.cells #[.int .u64 p.1, .int .u64 p.2] 24))).below hb1
            have bC1 := (bC.below ((Below.refl _ _).alloc (Nat.le_refl _) (.cells #[.int .u64 p.1, .int .u64 p.2] 24))).below hb1
            have hbw := bt (ba hb (.cells #[.int .u64 p.1, .int .u64 p.2] 24)) hb1
            have s0 := bS.cell0
            have s1 := bS.cell1
            have q0 := bR1.cell0
            have q1 := bR1.cell1
            have f0 := bR1.frozen 0
            have f1 := bR1.frozen 1
            have hne : wr.heap.size ≠ w.heap.size := by have := bR.lt; omega
            have hne1 : w.heap.size + 1 ≠ w.heap.size := by omega
            have z0 : w.heap.size < w1.heap.size := bR1.lt
            have z1 : wr.heap.size < w1.heap.size := bS.lt
            by_cases c1 : p.1 < u.1
            · by_cases c2 : u.2 < p.1 + (p.2 - 1)
              · have bS' := bS.other (o := 0) hne (.int .u64 p.1)
                have bR' := bR1.set0 (.int .u64 p.1)
                have bC' := bC1.other (o := 0) hne1 (.int .u64 p.1)
                have hb' : Below w.heap.size w _ := bs hbw (b := w.heap.size) (o := 0) (Nat.le_refl _) (.int .u64 p.1)
                have t0 := bS'.cell0
                have t1 := bS'.cell1
                have v1 := bR'.cell1
                have h1 := bR'.frozen 1
                go_wp2
                go_region_held3 (fun W => W.cell? ⟨wr.heap.size, 0, none⟩ = some (.int .u64 p.1) ∧ W.cell? ⟨wr.heap.size, 1, none⟩ = some (.int .u64 p.2) ∧ W.cell? ⟨w.heap.size, 1, none⟩ = some (.int .u64 u.2)) (first | exact ⟨bS'.cell0, bS'.cell1, bR'.cell1⟩ | assumption | go_keep) (first | (go_at_call 13; refine (rlast_ok p.1 p.2 _ o0 o1 o2).mono ?_; rintro e w2 ⟨rfl, hb2⟩; have bS2 := bS'.drew.below hb2; have bR2 := bR'.drew.below hb2; have bC2 := bC'.drew.below hb2; have hbw2 := bt hb'.drew hb2; have hS : w2.cell? ⟨wr.heap.size, 0, none⟩ = some (.int .u64 p.1) ∧ w2.cell? ⟨wr.heap.size, 1, none⟩ = some (.int .u64 p.2) ∧ w2.cell? ⟨w.heap.size, 1, none⟩ = some (.int .u64 u.2) := ⟨bS2.cell0, bS2.cell1, bR2.cell1⟩))
                have s20 := bS2.cell0
                have s21 := bS2.cell1
                have f21 := bR2.frozen 1
                have q21 := bR2.cell1
                go_wp2_with fail
                refine (rlast_ok p.1 p.2 _ o0 o1 o2).mono ?_
                rintro e w3 ⟨rfl, hb3⟩
                have bR3 := bR2.below hb3
                have bC3 := bC2.below hb3
                have f31 := bR3.frozen 1
                have q31 := bR3.cell1
                have hbw3 := bt hbw2 hb3
                go_wp2
                exact ⟨⟨t + 1, by omega, by go_num, by rw [HS.out, HJ.out]; show Box2 _ _ _ (.int .u64 (min u.1 p.1)) (.int .u64 (max u.2 (endOf p))); rw [show min u.1 p.1 = p.1 by omega, show max u.2 (endOf p) = p.1 + (p.2 - 1) by unfold endOf; omega]; exact bR3.set1 _, bC3.other (by omega) _, bs hbw3 (Nat.le_refl _) _⟩, by simp [intOf]; omega⟩
              · have hd2 : decide (u.2 < p.1 + (p.2 - 1)) = false := by simp; omega
                have bS' := bS.other (o := 0) hne (.int .u64 p.1)
                have bR' := bR1.set0 (.int .u64 p.1)
                have bC' := bC1.other (o := 0) hne1 (.int .u64 p.1)
                have hb' : Below w.heap.size w _ := bs hbw (b := w.heap.size) (o := 0) (Nat.le_refl _) (.int .u64 p.1)
                have t0 := bS'.cell0
                have t1 := bS'.cell1
                have v1 := bR'.cell1
                have h1 := bR'.frozen 1
                go_wp2
                go_region_held3 (fun W => W.cell? ⟨wr.heap.size, 0, none⟩ = some (.int .u64 p.1) ∧ W.cell? ⟨wr.heap.size, 1, none⟩ = some (.int .u64 p.2) ∧ W.cell? ⟨w.heap.size, 1, none⟩ = some (.int .u64 u.2)) (first | exact ⟨bS'.cell0, bS'.cell1, bR'.cell1⟩ | assumption | go_keep) (first | (go_at_call 13; refine (rlast_ok p.1 p.2 _ o0 o1 o2).mono ?_; rintro e w2 ⟨rfl, hb2⟩; have bS2 := bS'.drew.below hb2; have bR2 := bR'.drew.below hb2; have bC2 := bC'.drew.below hb2; have hbw2 := bt hb'.drew hb2; have hS : w2.cell? ⟨wr.heap.size, 0, none⟩ = some (.int .u64 p.1) ∧ w2.cell? ⟨wr.heap.size, 1, none⟩ = some (.int .u64 p.2) ∧ w2.cell? ⟨w.heap.size, 1, none⟩ = some (.int .u64 u.2) := ⟨bS2.cell0, bS2.cell1, bR2.cell1⟩))
                go_wp2
                exact ⟨⟨t + 1, by omega, by go_num, by rw [HS.out, HJ.out]; show Box2 _ _ _ (.int .u64 (min u.1 p.1)) (.int .u64 (max u.2 (endOf p))); rw [show min u.1 p.1 = p.1 by omega, show max u.2 (endOf p) = u.2 by unfold endOf; omega]; exact bR2, bC2, hbw2⟩, by simp [intOf]; omega⟩
            · have hd1 : decide (p.1 < u.1) = false := by simp; omega
              by_cases c2 : u.2 < p.1 + (p.2 - 1)
              · have bS' := bS
                have bR' := bR1
                have bC' := bC1
                have hb' := hbw
                have t0 := bS'.cell0
                have t1 := bS'.cell1
                have v1 := bR'.cell1
                have h1 := bR'.frozen 1
                go_wp2
                go_region_held3 (fun W => W.cell? ⟨wr.heap.size, 0, none⟩ = some (.int .u64 p.1) ∧ W.cell? ⟨wr.heap.size, 1, none⟩ = some (.int .u64 p.2) ∧ W.cell? ⟨w.heap.size, 1, none⟩ = some (.int .u64 u.2)) (first | exact ⟨bS'.cell0, bS'.cell1, bR'.cell1⟩ | assumption | go_keep) (first | (go_at_call 13; refine (rlast_ok p.1 p.2 _ o0 o1 o2).mono ?_; rintro e w2 ⟨rfl, hb2⟩; have bS2 := bS'.drew.below hb2; have bR2 := bR'.drew.below hb2; have bC2 := bC'.drew.below hb2; have hbw2 := bt hb'.drew hb2; have hS : w2.cell? ⟨wr.heap.size, 0, none⟩ = some (.int .u64 p.1) ∧ w2.cell? ⟨wr.heap.size, 1, none⟩ = some (.int .u64 p.2) ∧ w2.cell? ⟨w.heap.size, 1, none⟩ = some (.int .u64 u.2) := ⟨bS2.cell0, bS2.cell1, bR2.cell1⟩))
                have s20 := bS2.cell0
                have s21 := bS2.cell1
                have f21 := bR2.frozen 1
                have q21 := bR2.cell1
                go_wp2_with fail
                refine (rlast_ok p.1 p.2 _ o0 o1 o2).mono ?_
                rintro e w3 ⟨rfl, hb3⟩
                have bR3 := bR2.below hb3
                have bC3 := bC2.below hb3
                have f31 := bR3.frozen 1
                have q31 := bR3.cell1
                have hbw3 := bt hbw2 hb3
                go_wp2
                exact ⟨⟨t + 1, by omega, by go_num, by rw [HS.out, HJ.out]; show Box2 _ _ _ (.int .u64 (min u.1 p.1)) (.int .u64 (max u.2 (endOf p))); rw [show min u.1 p.1 = u.1 by omega, show max u.2 (endOf p) = p.1 + (p.2 - 1) by unfold endOf; omega]; exact bR3.set1 _, bC3.other (by omega) _, bs hbw3 (Nat.le_refl _) _⟩, by simp [intOf]; omega⟩
              · have hd2 : decide (u.2 < p.1 + (p.2 - 1)) = false := by simp; omega
                have bS' := bS
                have bR' := bR1
                have bC' := bC1
                have hb' := hbw
                have t0 := bS'.cell0
                have t1 := bS'.cell1
                have v1 := bR'.cell1
                have h1 := bR'.frozen 1
                go_wp2
                go_region_held3 (fun W => W.cell? ⟨wr.heap.size, 0, none⟩ = some (.int .u64 p.1) ∧ W.cell? ⟨wr.heap.size, 1, none⟩ = some (.int .u64 p.2) ∧ W.cell? ⟨w.heap.size, 1, none⟩ = some (.int .u64 u.2)) (first | exact ⟨bS'.cell0, bS'.cell1, bR'.cell1⟩ | assumption | go_keep) (first | (go_at_call 13; refine (rlast_ok p.1 p.2 _ o0 o1 o2).mono ?_; rintro e w2 ⟨rfl, hb2⟩; have bS2 := bS'.drew.below hb2; have bR2 := bR'.drew.below hb2; have bC2 := bC'.drew.below hb2; have hbw2 := bt hb'.drew hb2; have hS : w2.cell? ⟨wr.heap.size, 0, none⟩ = some (.int .u64 p.1) ∧ w2.cell? ⟨wr.heap.size, 1, none⟩ = some (.int .u64 p.2) ∧ w2.cell? ⟨w.heap.size, 1, none⟩ = some (.int .u64 u.2) := ⟨bS2.cell0, bS2.cell1, bR2.cell1⟩))
                go_wp2
                exact ⟨⟨t + 1, by omega, by go_num, by rw [HS.out, HJ.out]; show Box2 _ _ _ (.int .u64 (min u.1 p.1)) (.int .u64 (max u.2 (endOf p))); rw [show min u.1 p.1 = u.1 by omega, show max u.2 (endOf p) = u.2 by unfold endOf; omega]; exact bR2, bC2, hbw2⟩, by simp [intOf]; omega⟩
          · have HJ := Lib.hid (step_no hj)
            go_wp2_with fail
            refine (joins_no _ HT.out HP.out hj).mono ?_
            rintro e w1 ⟨rfl, hb1⟩
            have bR1 := (bR.below ((Below.refl _ _).alloc (Nat.le_refl _) (.cells #[.int .u64 p.1, .int .u64 p.2] 24))).below hb1
            have bC1 := (bC.below ((Below.refl _ _).alloc (Nat.le_refl _) (.cells #[.int .u64 p.1, .int .u64 p.2] 24))).below hb1
            have hbw := bt (ba hb (.cells #[.int .u64 p.1, .int .u64 p.2] 24)) hb1
            go_wp2
            exact ⟨⟨t + 1, by omega, by go_num, by rw [HS.out, HJ.out]; exact bR1, bC1, hbw⟩, by simp [intOf]; omega⟩
        · obtain rfl : t = L.length := by omega
          rw [List.take_length, HQ.out] at bR
          go_wp2
          exact ⟨⟨k + 1, by omega, by go_num, bR, bC, hb⟩, by simp [intOf]; omega⟩
    · obtain rfl : k = L.length := by omega
      have q0 := bR.cell0
      have q1 := bR.cell1
      have f0 := bC.frozen 0
      have f1 := bC.frozen 1
      have bD := (bC.set0 (.int .u64 (growR L L.length r).1)).set1 (.int .u64 (growR L L.length r).2)
      have d0 := bD.cell0
      have d1 := bD.cell1
      have c0 := bC.cell0
      have c1 := bC.cell1
      have y0 : w.heap.size < wr.heap.size := bR.lt
      have y1 : w.heap.size + 1 < wr.heap.size := bC.lt
      go_wp2
      refine bodyPost_ret (v := .agg #[.int .u64 (growR L L.length r).1, .int .u64 (growR L L.length r).2]) (by simp [results, Try.results40, go_sem, d0, d1]) rfl ⟨rfl, ?_⟩
      exact bs (bs hb (by omega) _) (by omega) _
end Go.Proofs.Ytkaenoejfdcokaa
