/- Texts of this seat, one behind the other: PSame. -/
import Derived.Deep.RegionHeld3
import Derived.Test.YtjonhenllhnibaaGreatDoorQ21
/- The contract of the reference's Same of two proofs. -/
namespace Go.Proofs.YtjonhenllhnibaaGreatDoor
open Go.RowKit

/-- Two proofs in their boxes. -/
def pb2 (w : World) (A1 : Option Addr) (n1 c1 : Nat) (B1 : Option Addr) (m1 d1 : Nat) (A2 : Option Addr) (n2 c2 : Nat) (B2 : Option Addr) (m2 d2 : Nat) : World := (w.alloc (.cells #[.slice A1 n1 c1, .slice B1 m1 d1] 26)).alloc (.cells #[.slice A2 n2 c2, .slice B2 m2 d2] 26)
section
variable (w : World) (A1 : Option Addr) (n1 c1 : Nat) (B1 : Option Addr) (m1 d1 : Nat) (A2 : Option Addr) (n2 c2 : Nat) (B2 : Option Addr) (m2 d2 : Nat)
theorem pb2_below : Below w.heap.size w (pb2 w A1 n1 c1 B1 m1 d1 A2 n2 c2 B2 m2 d2) := ba (ba (Below.refl w.heap.size w) _) _
theorem pb2_blks : Blk (pb2 w A1 n1 c1 B1 m1 d1 A2 n2 c2 B2 m2 d2) w.heap.size 26 #[.slice A1 n1 c1, .slice B1 m1 d1] ∧ Blk (pb2 w A1 n1 c1 B1 m1 d1 A2 n2 c2 B2 m2 d2) (w.heap.size + 1) 26 #[.slice A2 n2 c2, .slice B2 m2 d2] :=
  ⟨(Blk.new w _ _).alloc _, Blk.newAt (by simp) _ _⟩
end
theorem pcell0 {W : World} {g : Nat} {t : TypeId} {x y : Value} (h : Blk W g t #[x, y]) : W.cell? ⟨g, 0, none⟩ = some x := h.cell 0
theorem pcell1 {W : World} {g : Nat} {t : TypeId} {x y : Value} (h : Blk W g t #[x, y]) : W.cell? ⟨g, 1, none⟩ = some y := h.cell 1

set_option maxRecDepth 100000 in
set_option maxHeartbeats 8000000 in
theorem psame_any (A1 A2 B1 B2 : Option Addr) (c1 c2 d1 d2 n1 n2 m1 m2 : Nat) (S T C D : List (List (List UInt8))) (w : World) (hA1 : LR w A1 S) (hA2 : LR w A2 T) (hB1 : LR w B1 C) (hB2 : LR w B2 D) (hS : S.length = n1) (hT : T.length = n2) (hC : C.length = m1) (hD : D.length = m2) (hn1 : n1 ≤ 65536) (hn2 : n2 ≤ 65536) (hm1 : m1 ≤ 65536) (hm2 : m2 ≤ 65536)
    (xS : ∀ j, (S.getD j []).length ≤ 65536) (xT : ∀ j, (T.getD j []).length ≤ 65536) (xC : ∀ j, (C.getD j []).length ≤ 65536) (xD : ∀ j, (D.getD j []).length ≤ 65536) :
    Calls Tryz.prog 10 #[pfv A1 n1 c1 B1 m1 d1, pfv A2 n2 c2 B2 m2 d2] w fun e w' => e = .returned (.bool (decide (S = T ∧ C = D))) ∧ Below w.heap.size w w' := by
  have HB0 := Lib.hid (pb2_below w A1 n1 c1 B1 m1 d1 A2 n2 c2 B2 m2 d2)
  obtain ⟨hk0, hk1⟩ := pb2_blks w A1 n1 c1 B1 m1 d1 A2 n2 c2 B2 m2 d2
  have HK := Lib.hid (And.intro hk0 hk1)
  have q0 := pcell0 hk0
  have q1 := pcell1 hk0
  have r0 := pcell0 hk1
  have r1 := pcell1 hk1
  clear hk0 hk1
  by_cases hnn : n1 = n2
  · by_cases hmm : m1 = m2
    · subst hnn
      subst hmm
      clear hn2 hm2
      have HRS := Lib.hid (fun j W (hj : j < n1) (hb : Below w.heap.size w W) => (hA1.later hb) j (by omega))
      have HRT := Lib.hid (fun j W (hj : j < n1) (hb : Below w.heap.size w W) => (hA2.later hb) j (by omega))
      have HRC := Lib.hid (fun j W (hj : j < m1) (hb : Below w.heap.size w W) => (hB1.later hb) j (by omega))
      have HRD := Lib.hid (fun j W (hj : j < m1) (hb : Below w.heap.size w W) => (hB2.later hb) j (by omega))
      have TST := Lib.hid (fun j X Y d d' W (h1 : SR W X (S.getD j [])) (h2 : SR W Y (T.getD j [])) => jsame_any X Y d d' _ _ (S.getD j []) (T.getD j []) W h1 h2 rfl rfl (xS j) (xT j))
      have TCD := Lib.hid (fun j X Y d d' W (h1 : SR W X (C.getD j [])) (h2 : SR W Y (D.getD j [])) => jsame_any X Y d d' _ _ (C.getD j []) (D.getD j []) W h1 h2 rfl rfl (xC j) (xD j))
      have HL := Lib.hid (And.intro hS (And.intro hT (And.intro hC hD)))
      clear hA1 hA2 hB1 hB2 hS hT hC hD xS xT xC xD
      unfold pb2 at *
      go_enter Tryz.func10, Tryz.ntmps10
      go_wp2_with fail
      clear q0 q1 r0 r1
      generalize (w.alloc (.cells #[.slice A1 n1 c1, .slice B1 m1 d1] 26)).alloc (.cells #[.slice A2 n1 c2, .slice B2 m1 d2] 26) = w0 at *
      go_loopw [26] (fun iv wr => ∃ k : Nat, k ≤ n1 ∧ iv = .int .i64 (k : Int) ∧ Hid (∀ j, j < k → S.getD j [] = T.getD j []) ∧ Hid (Blk wr w.heap.size 26 #[.slice A1 n1 c1, .slice B1 m1 d1] ∧ Blk wr (w.heap.size + 1) 26 #[.slice A2 n1 c2, .slice B2 m1 d2]) ∧ Hid (Below w.heap.size w wr)) (fun i _ => n1 - (intOf i).toNat)
      case atStart => exact ⟨0, Nat.zero_le _, rfl, Lib.hid (fun j hj => absurd hj (Nat.not_lt_zero j)), HK, HB0⟩
      case round =>
        clear HB0 HK
        obtain ⟨k, hk, rfl, HE, HK, HB⟩ := hrel
        by_cases hlt : k < n1
        · have i0 : (0 : Int) ≤ (k : Int) := by omega
          have i1 : (k : Int) < (n1 : Int) := by omega
          obtain ⟨ga, oa, Ba, da, rfl, ca, hda, hSa⟩ := HRS.out k wr hlt HB.out
          obtain ⟨gb, ob, Bb, db, rfl, cb, hdb, hSb⟩ := HRT.out k wr hlt HB.out
          have TT := Lib.hid (fun W (hb : Below wr.heap.size wr W) => TST.out k Ba Bb da db W (hSa.later hb) (hSb.later hb))
          clear hSa hSb hda hdb
          go_wp2_with fail
          -- region 6
          have HY : Hid (S.getD k [] = T.getD k [] → ∀ j, j < k + 1 → S.getD j [] = T.getD j []) := Lib.hid fun h j hj => by
            by_cases e : j = k
            · rw [e]; exact h
            · exact HE.out j (by omega)
          have HNo : Hid (S.getD k [] ≠ T.getD k [] → decide (S = T ∧ C = D) = false) := Lib.hid fun hh => decide_eq_false (fun h => hh (by rw [h.1]))
          generalize S.getD k [] = x at ca TT HY HNo
          generalize T.getD k [] = y at cb TT HY HNo
          by_cases hxy : x = y
          · rw [decide_eq_true hxy] at TT
            have HE2 := Lib.hid (HY.out hxy)
            clear HY HNo hxy HE
            generalize x.length = xl at ca TT
            generalize y.length = yl at cb TT
            refine wp_region_held_drew (S := fun W => Below wr.heap.size wr W) (by kernel_rfl) (by first | exact Below.refl _ _ | exact (Below.refl _ _).drew) (fun hHeld => ?_)
            refine wpAnyH_take (i := 0) (oi := ⟨some 29, _, _, _, _, _⟩) (v := ?_) rfl (by kernel_rfl) (by kernel_rfl) (by kernel_rfl) (fun _ _ _ h => h) (Or.inl ⟨by rfl, ?_⟩) (by assumption) ?_
            rotate_left
            · (intro w9 hSw; (try dsimp only at hSw); go_simp; try with_reducible rfl)
            try simp only [Act.put, List.setIfInBounds_toArray, List.set_cons_zero, List.set_cons_succ]
            refine wpAnyH_take (i := 1) (oi := ⟨some 30, _, _, _, _, _⟩) (v := .slice (some ⟨ga, oa, none⟩) n1 c1) rfl (by kernel_rfl) (by kernel_rfl) (by kernel_rfl) (fun _ _ _ h => h) (Or.inl ⟨by rfl, ?_⟩) (by assumption) ?_
            · (intro w9 hSw; have q9 := pcell0 (HK.out.1.below hSw); (try dsimp only at hSw); go_simp; try with_reducible rfl)
            try simp only [Act.put, List.setIfInBounds_toArray, List.set_cons_zero, List.set_cons_succ]
            refine wpAnyH_take (i := 2) (oi := ⟨some 31, _, _, _, _, _⟩) (v := ?_) rfl (by kernel_rfl) (by kernel_rfl) (by kernel_rfl) (fun _ _ _ h => h) (Or.inl ⟨by rfl, ?_⟩) (by assumption) ?_
            rotate_left
            · (intro w9 hSw; (try dsimp only at hSw); go_simp; try with_reducible rfl)
            try simp only [Act.put, List.setIfInBounds_toArray, List.set_cons_zero, List.set_cons_succ]
            refine wpAnyH_take (i := 3) (oi := ⟨some 32, _, _, _, _, _⟩) (v := .pointer (some ⟨ga, oa + k, none⟩)) rfl (by kernel_rfl) (by kernel_rfl) (by kernel_rfl) (fun _ _ _ h => h) (Or.inl ⟨by rfl, ?_⟩) (by assumption) ?_
            · (intro w9 hSw; (try dsimp only at hSw); go_simp; try with_reducible rfl)
            try simp only [Act.put, List.setIfInBounds_toArray, List.set_cons_zero, List.set_cons_succ]
            refine wpAnyH_take (i := 4) (oi := ⟨some 33, _, _, _, _, _⟩) (v := .slice Ba xl da) rfl (by kernel_rfl) (by kernel_rfl) (by kernel_rfl) (fun _ _ _ h => h) (Or.inl ⟨by rfl, ?_⟩) (by assumption) ?_
            · (intro w9 hSw; have q9 := cell_later hSw ca; (try dsimp only at hSw); go_simp; try with_reducible rfl)
            try simp only [Act.put, List.setIfInBounds_toArray, List.set_cons_zero, List.set_cons_succ]
            refine wpAnyH_take (i := 5) (oi := ⟨some 34, _, _, _, _, _⟩) (v := ?_) rfl (by kernel_rfl) (by kernel_rfl) (by kernel_rfl) (fun _ _ _ h => h) (Or.inl ⟨by rfl, ?_⟩) (by assumption) ?_
            rotate_left
            · (intro w9 hSw; (try dsimp only at hSw); go_simp; try with_reducible rfl)
            try simp only [Act.put, List.setIfInBounds_toArray, List.set_cons_zero, List.set_cons_succ]
            refine wpAnyH_take (i := 6) (oi := ⟨some 35, _, _, _, _, _⟩) (v := .slice (some ⟨gb, ob, none⟩) n1 c2) rfl (by kernel_rfl) (by kernel_rfl) (by kernel_rfl) (fun _ _ _ h => h) (Or.inl ⟨by rfl, ?_⟩) (by assumption) ?_
            · (intro w9 hSw; have q9 := pcell0 (HK.out.2.below hSw); (try dsimp only at hSw); go_simp; try with_reducible rfl)
            try simp only [Act.put, List.setIfInBounds_toArray, List.set_cons_zero, List.set_cons_succ]
            refine wpAnyH_take (i := 7) (oi := ⟨some 36, _, _, _, _, _⟩) (v := ?_) rfl (by kernel_rfl) (by kernel_rfl) (by kernel_rfl) (fun _ _ _ h => h) (Or.inl ⟨by rfl, ?_⟩) (by assumption) ?_
            rotate_left
            · (intro w9 hSw; (try dsimp only at hSw); go_simp; try with_reducible rfl)
            try simp only [Act.put, List.setIfInBounds_toArray, List.set_cons_zero, List.set_cons_succ]
            refine wpAnyH_take (i := 8) (oi := ⟨some 37, _, _, _, _, _⟩) (v := .pointer (some ⟨gb, ob + k, none⟩)) rfl (by kernel_rfl) (by kernel_rfl) (by kernel_rfl) (fun _ _ _ h => h) (Or.inl ⟨by rfl, ?_⟩) (by assumption) ?_
            · (intro w9 hSw; (try dsimp only at hSw); go_simp; try with_reducible rfl)
            try simp only [Act.put, List.setIfInBounds_toArray, List.set_cons_zero, List.set_cons_succ]
            refine wpAnyH_take (i := 9) (oi := ⟨some 38, _, _, _, _, _⟩) (v := .slice Bb yl db) rfl (by kernel_rfl) (by kernel_rfl) (by kernel_rfl) (fun _ _ _ h => h) (Or.inl ⟨by rfl, ?_⟩) (by assumption) ?_
            · (intro w9 hSw; have q9 := cell_later hSw cb; (try dsimp only at hSw); go_simp; try with_reducible rfl)
            try simp only [Act.put, List.setIfInBounds_toArray, List.set_cons_zero, List.set_cons_succ]
            refine wpAnyH_ready (rs := [10]) (by kernel_rfl) (by simp) ?_
            refine AllReadyH.cons (o := ⟨some 39, _, _, _, _, _⟩) rfl (fun K9 hK9 => ?_) AllReadyH.nil
            go_simp; go_at_call 20
            refine (TT.out _ (Below.refl wr.heap.size wr).drew).mono ?_
            rintro e wa ⟨rfl, hba⟩
            have hS1 := bt (Below.refl wr.heap.size wr).drew hba
            refine hK9.out _ _ ?_ (fun hHeld => ?_)
            · exact hS1
            clear hK9 K9
            try simp only [Act.put, List.setIfInBounds_toArray, List.set_cons_zero, List.set_cons_succ]
            refine wpAnyH_take (i := 11) (oi := ⟨some 40, _, _, _, _, _⟩) (v := ?_) rfl (by kernel_rfl) (by kernel_rfl) (by kernel_rfl) (fun _ _ _ h => h) (Or.inl ⟨by rfl, ?_⟩) (by assumption) ?_
            rotate_left
            · (intro w9 hSw; (try dsimp only at hSw); go_simp; try with_reducible rfl)
            try simp only [Act.put, List.setIfInBounds_toArray, List.set_cons_zero, List.set_cons_succ]
            refine wpAnyH_done (by kernel_rfl) ?_ _
            have HB2 := Lib.hid (bt HB.out hS1)
            have HK2 := Lib.hid (And.intro (HK.out.1.below hS1) (HK.out.2.below hS1))
            clear hba hS1 HK HB ca cb TT
            go_wp2_with fail
            exact ⟨⟨k + 1, by omega, by go_num, HE2, HK2, HB2⟩, by simp [intOf]; omega⟩
          · rw [decide_eq_false hxy] at TT
            have HN := Lib.hid (HNo.out hxy)
            clear HY HNo hxy HE
            generalize x.length = xl at ca TT
            generalize y.length = yl at cb TT
            refine wp_region_held_drew (S := fun W => Below wr.heap.size wr W) (by kernel_rfl) (by first | exact Below.refl _ _ | exact (Below.refl _ _).drew) (fun hHeld => ?_)
            refine wpAnyH_take (i := 0) (oi := ⟨some 29, _, _, _, _, _⟩) (v := ?_) rfl (by kernel_rfl) (by kernel_rfl) (by kernel_rfl) (fun _ _ _ h => h) (Or.inl ⟨by rfl, ?_⟩) (by assumption) ?_
            rotate_left
            · (intro w9 hSw; (try dsimp only at hSw); go_simp; try with_reducible rfl)
            try simp only [Act.put, List.setIfInBounds_toArray, List.set_cons_zero, List.set_cons_succ]
            refine wpAnyH_take (i := 1) (oi := ⟨some 30, _, _, _, _, _⟩) (v := .slice (some ⟨ga, oa, none⟩) n1 c1) rfl (by kernel_rfl) (by kernel_rfl) (by kernel_rfl) (fun _ _ _ h => h) (Or.inl ⟨by rfl, ?_⟩) (by assumption) ?_
            · (intro w9 hSw; have q9 := pcell0 (HK.out.1.below hSw); (try dsimp only at hSw); go_simp; try with_reducible rfl)
            try simp only [Act.put, List.setIfInBounds_toArray, List.set_cons_zero, List.set_cons_succ]
            refine wpAnyH_take (i := 2) (oi := ⟨some 31, _, _, _, _, _⟩) (v := ?_) rfl (by kernel_rfl) (by kernel_rfl) (by kernel_rfl) (fun _ _ _ h => h) (Or.inl ⟨by rfl, ?_⟩) (by assumption) ?_
            rotate_left
            · (intro w9 hSw; (try dsimp only at hSw); go_simp; try with_reducible rfl)
            try simp only [Act.put, List.setIfInBounds_toArray, List.set_cons_zero, List.set_cons_succ]
            refine wpAnyH_take (i := 3) (oi := ⟨some 32, _, _, _, _, _⟩) (v := .pointer (some ⟨ga, oa + k, none⟩)) rfl (by kernel_rfl) (by kernel_rfl) (by kernel_rfl) (fun _ _ _ h => h) (Or.inl ⟨by rfl, ?_⟩) (by assumption) ?_
            · (intro w9 hSw; (try dsimp only at hSw); go_simp; try with_reducible rfl)
            try simp only [Act.put, List.setIfInBounds_toArray, List.set_cons_zero, List.set_cons_succ]
            refine wpAnyH_take (i := 4) (oi := ⟨some 33, _, _, _, _, _⟩) (v := .slice Ba xl da) rfl (by kernel_rfl) (by kernel_rfl) (by kernel_rfl) (fun _ _ _ h => h) (Or.inl ⟨by rfl, ?_⟩) (by assumption) ?_
            · (intro w9 hSw; have q9 := cell_later hSw ca; (try dsimp only at hSw); go_simp; try with_reducible rfl)
            try simp only [Act.put, List.setIfInBounds_toArray, List.set_cons_zero, List.set_cons_succ]
            refine wpAnyH_take (i := 5) (oi := ⟨some 34, _, _, _, _, _⟩) (v := ?_) rfl (by kernel_rfl) (by kernel_rfl) (by kernel_rfl) (fun _ _ _ h => h) (Or.inl ⟨by rfl, ?_⟩) (by assumption) ?_
            rotate_left
            · (intro w9 hSw; (try dsimp only at hSw); go_simp; try with_reducible rfl)
            try simp only [Act.put, List.setIfInBounds_toArray, List.set_cons_zero, List.set_cons_succ]
            refine wpAnyH_take (i := 6) (oi := ⟨some 35, _, _, _, _, _⟩) (v := .slice (some ⟨gb, ob, none⟩) n1 c2) rfl (by kernel_rfl) (by kernel_rfl) (by kernel_rfl) (fun _ _ _ h => h) (Or.inl ⟨by rfl, ?_⟩) (by assumption) ?_
            · (intro w9 hSw; have q9 := pcell0 (HK.out.2.below hSw); (try dsimp only at hSw); go_simp; try with_reducible rfl)
            try simp only [Act.put, List.setIfInBounds_toArray, List.set_cons_zero, List.set_cons_succ]
            refine wpAnyH_take (i := 7) (oi := ⟨some 36, _, _, _, _, _⟩) (v := ?_) rfl (by kernel_rfl) (by kernel_rfl) (by kernel_rfl) (fun _ _ _ h => h) (Or.inl ⟨by rfl, ?_⟩) (by assumption) ?_
            rotate_left
            · (intro w9 hSw; (try dsimp only at hSw); go_simp; try with_reducible rfl)
            try simp only [Act.put, List.setIfInBounds_toArray, List.set_cons_zero, List.set_cons_succ]
            refine wpAnyH_take (i := 8) (oi := ⟨some 37, _, _, _, _, _⟩) (v := .pointer (some ⟨gb, ob + k, none⟩)) rfl (by kernel_rfl) (by kernel_rfl) (by kernel_rfl) (fun _ _ _ h => h) (Or.inl ⟨by rfl, ?_⟩) (by assumption) ?_
            · (intro w9 hSw; (try dsimp only at hSw); go_simp; try with_reducible rfl)
            try simp only [Act.put, List.setIfInBounds_toArray, List.set_cons_zero, List.set_cons_succ]
            refine wpAnyH_take (i := 9) (oi := ⟨some 38, _, _, _, _, _⟩) (v := .slice Bb yl db) rfl (by kernel_rfl) (by kernel_rfl) (by kernel_rfl) (fun _ _ _ h => h) (Or.inl ⟨by rfl, ?_⟩) (by assumption) ?_
            · (intro w9 hSw; have q9 := cell_later hSw cb; (try dsimp only at hSw); go_simp; try with_reducible rfl)
            try simp only [Act.put, List.setIfInBounds_toArray, List.set_cons_zero, List.set_cons_succ]
            refine wpAnyH_ready (rs := [10]) (by kernel_rfl) (by simp) ?_
            refine AllReadyH.cons (o := ⟨some 39, _, _, _, _, _⟩) rfl (fun K9 hK9 => ?_) AllReadyH.nil
            go_simp; go_at_call 20
            refine (TT.out _ (Below.refl wr.heap.size wr).drew).mono ?_
            rintro e wa ⟨rfl, hba⟩
            have hS1 := bt (Below.refl wr.heap.size wr).drew hba
            refine hK9.out _ _ ?_ (fun hHeld => ?_)
            · exact hS1
            clear hK9 K9
            try simp only [Act.put, List.setIfInBounds_toArray, List.set_cons_zero, List.set_cons_succ]
            refine wpAnyH_take (i := 11) (oi := ⟨some 40, _, _, _, _, _⟩) (v := ?_) rfl (by kernel_rfl) (by kernel_rfl) (by kernel_rfl) (fun _ _ _ h => h) (Or.inl ⟨by rfl, ?_⟩) (by assumption) ?_
            rotate_left
            · (intro w9 hSw; (try dsimp only at hSw); go_simp; try with_reducible rfl)
            try simp only [Act.put, List.setIfInBounds_toArray, List.set_cons_zero, List.set_cons_succ]
            refine wpAnyH_done (by kernel_rfl) ?_ _
            have HB2 := Lib.hid (bt HB.out hS1)
            have HK2 := Lib.hid (And.intro (HK.out.1.below hS1) (HK.out.2.below hS1))
            clear hba hS1 HK HB ca cb TT
            go_wp2
            go_ret
            exact ⟨by rw [HN.out]; rfl, HB2.out⟩
          -- end 6
        · obtain rfl : n1 = k := by omega
          have HST : Hid (S = T) := Lib.hid (prows_ext HL.out.1 HL.out.2.1 HE.out)
          have q0 := pcell0 HK.out.1
          have q1 := pcell1 HK.out.1
          clear HE HRS HRT TST
          go_wp2_with fail
          clear q0 q1
          go_loopw [45] (fun iv wr => ∃ k : Nat, k ≤ m1 ∧ iv = .int .i64 (k : Int) ∧ Hid (∀ j, j < k → C.getD j [] = D.getD j []) ∧ Hid (Blk wr w.heap.size 26 #[.slice A1 n1 c1, .slice B1 m1 d1] ∧ Blk wr (w.heap.size + 1) 26 #[.slice A2 n1 c2, .slice B2 m1 d2]) ∧ Hid (Below w.heap.size w wr)) (fun i _ => m1 - (intOf i).toNat)
          case atStart => exact ⟨0, Nat.zero_le _, rfl, Lib.hid (fun j hj => absurd hj (Nat.not_lt_zero j)), HK, HB⟩
          case round =>
            clear HB HK
            obtain ⟨k, hk, rfl, HE, HK, HB⟩ := hrel
            by_cases hlt : k < m1
            · have i0 : (0 : Int) ≤ (k : Int) := by omega
              have i1 : (k : Int) < (m1 : Int) := by omega
              obtain ⟨ga, oa, Ba, da, rfl, ca, hda, hSa⟩ := HRC.out k wr hlt HB.out
              obtain ⟨gb, ob, Bb, db, rfl, cb, hdb, hSb⟩ := HRD.out k wr hlt HB.out
              have TT := Lib.hid (fun W (hb : Below wr.heap.size wr W) => TCD.out k Ba Bb da db W (hSa.later hb) (hSb.later hb))
              clear hSa hSb hda hdb
              go_wp2_with fail
              -- region 12
              have HY : Hid (C.getD k [] = D.getD k [] → ∀ j, j < k + 1 → C.getD j [] = D.getD j []) := Lib.hid fun h j hj => by
                by_cases e : j = k
                · rw [e]; exact h
                · exact HE.out j (by omega)
              have HNo : Hid (C.getD k [] ≠ D.getD k [] → decide (S = T ∧ C = D) = false) := Lib.hid fun hh => decide_eq_false (fun h => hh (by rw [h.2]))
              generalize C.getD k [] = x at ca TT HY HNo
              generalize D.getD k [] = y at cb TT HY HNo
              by_cases hxy : x = y
              · rw [decide_eq_true hxy] at TT
                have HE2 := Lib.hid (HY.out hxy)
                clear HY HNo hxy HE
                generalize x.length = xl at ca TT
                generalize y.length = yl at cb TT
                refine wp_region_held_drew (S := fun W => Below wr.heap.size wr W) (by kernel_rfl) (by first | exact Below.refl _ _ | exact (Below.refl _ _).drew) (fun hHeld => ?_)
                refine wpAnyH_take (i := 0) (oi := ⟨some 48, _, _, _, _, _⟩) (v := ?_) rfl (by kernel_rfl) (by kernel_rfl) (by kernel_rfl) (fun _ _ _ h => h) (Or.inl ⟨by rfl, ?_⟩) (by assumption) ?_
                rotate_left
                · (intro w9 hSw; (try dsimp only at hSw); go_simp; try with_reducible rfl)
                try simp only [Act.put, List.setIfInBounds_toArray, List.set_cons_zero, List.set_cons_succ]
                refine wpAnyH_take (i := 1) (oi := ⟨some 49, _, _, _, _, _⟩) (v := .slice (some ⟨ga, oa, none⟩) m1 d1) rfl (by kernel_rfl) (by kernel_rfl) (by kernel_rfl) (fun _ _ _ h => h) (Or.inl ⟨by rfl, ?_⟩) (by assumption) ?_
                · (intro w9 hSw; have q9 := pcell1 (HK.out.1.below hSw); (try dsimp only at hSw); go_simp; try with_reducible rfl)
                try simp only [Act.put, List.setIfInBounds_toArray, List.set_cons_zero, List.set_cons_succ]
                refine wpAnyH_take (i := 2) (oi := ⟨some 50, _, _, _, _, _⟩) (v := ?_) rfl (by kernel_rfl) (by kernel_rfl) (by kernel_rfl) (fun _ _ _ h => h) (Or.inl ⟨by rfl, ?_⟩) (by assumption) ?_
                rotate_left
                · (intro w9 hSw; (try dsimp only at hSw); go_simp; try with_reducible rfl)
                try simp only [Act.put, List.setIfInBounds_toArray, List.set_cons_zero, List.set_cons_succ]
                refine wpAnyH_take (i := 3) (oi := ⟨some 51, _, _, _, _, _⟩) (v := .pointer (some ⟨ga, oa + k, none⟩)) rfl (by kernel_rfl) (by kernel_rfl) (by kernel_rfl) (fun _ _ _ h => h) (Or.inl ⟨by rfl, ?_⟩) (by assumption) ?_
                · (intro w9 hSw; (try dsimp only at hSw); go_simp; try with_reducible rfl)
                try simp only [Act.put, List.setIfInBounds_toArray, List.set_cons_zero, List.set_cons_succ]
                refine wpAnyH_take (i := 4) (oi := ⟨some 52, _, _, _, _, _⟩) (v := .slice Ba xl da) rfl (by kernel_rfl) (by kernel_rfl) (by kernel_rfl) (fun _ _ _ h => h) (Or.inl ⟨by rfl, ?_⟩) (by assumption) ?_
                · (intro w9 hSw; have q9 := cell_later hSw ca; (try dsimp only at hSw); go_simp; try with_reducible rfl)
                try simp only [Act.put, List.setIfInBounds_toArray, List.set_cons_zero, List.set_cons_succ]
                refine wpAnyH_take (i := 5) (oi := ⟨some 53, _, _, _, _, _⟩) (v := ?_) rfl (by kernel_rfl) (by kernel_rfl) (by kernel_rfl) (fun _ _ _ h => h) (Or.inl ⟨by rfl, ?_⟩) (by assumption) ?_
                rotate_left
                · (intro w9 hSw; (try dsimp only at hSw); go_simp; try with_reducible rfl)
                try simp only [Act.put, List.setIfInBounds_toArray, List.set_cons_zero, List.set_cons_succ]
                refine wpAnyH_take (i := 6) (oi := ⟨some 54, _, _, _, _, _⟩) (v := .slice (some ⟨gb, ob, none⟩) m1 d2) rfl (by kernel_rfl) (by kernel_rfl) (by kernel_rfl) (fun _ _ _ h => h) (Or.inl ⟨by rfl, ?_⟩) (by assumption) ?_
                · (intro w9 hSw; have q9 := pcell1 (HK.out.2.below hSw); (try dsimp only at hSw); go_simp; try with_reducible rfl)
                try simp only [Act.put, List.setIfInBounds_toArray, List.set_cons_zero, List.set_cons_succ]
                refine wpAnyH_take (i := 7) (oi := ⟨some 55, _, _, _, _, _⟩) (v := ?_) rfl (by kernel_rfl) (by kernel_rfl) (by kernel_rfl) (fun _ _ _ h => h) (Or.inl ⟨by rfl, ?_⟩) (by assumption) ?_
                rotate_left
                · (intro w9 hSw; (try dsimp only at hSw); go_simp; try with_reducible rfl)
                try simp only [Act.put, List.setIfInBounds_toArray, List.set_cons_zero, List.set_cons_succ]
                refine wpAnyH_take (i := 8) (oi := ⟨some 56, _, _, _, _, _⟩) (v := .pointer (some ⟨gb, ob + k, none⟩)) rfl (by kernel_rfl) (by kernel_rfl) (by kernel_rfl) (fun _ _ _ h => h) (Or.inl ⟨by rfl, ?_⟩) (by assumption) ?_
                · (intro w9 hSw; (try dsimp only at hSw); go_simp; try with_reducible rfl)
                try simp only [Act.put, List.setIfInBounds_toArray, List.set_cons_zero, List.set_cons_succ]
                refine wpAnyH_take (i := 9) (oi := ⟨some 57, _, _, _, _, _⟩) (v := .slice Bb yl db) rfl (by kernel_rfl) (by kernel_rfl) (by kernel_rfl) (fun _ _ _ h => h) (Or.inl ⟨by rfl, ?_⟩) (by assumption) ?_
                · (intro w9 hSw; have q9 := cell_later hSw cb; (try dsimp only at hSw); go_simp; try with_reducible rfl)
                try simp only [Act.put, List.setIfInBounds_toArray, List.set_cons_zero, List.set_cons_succ]
                refine wpAnyH_ready (rs := [10]) (by kernel_rfl) (by simp) ?_
                refine AllReadyH.cons (o := ⟨some 58, _, _, _, _, _⟩) rfl (fun K9 hK9 => ?_) AllReadyH.nil
                go_simp; go_at_call 20
                refine (TT.out _ (Below.refl wr.heap.size wr).drew).mono ?_
                rintro e wa ⟨rfl, hba⟩
                have hS1 := bt (Below.refl wr.heap.size wr).drew hba
                refine hK9.out _ _ ?_ (fun hHeld => ?_)
                · exact hS1
                clear hK9 K9
                try simp only [Act.put, List.setIfInBounds_toArray, List.set_cons_zero, List.set_cons_succ]
                refine wpAnyH_take (i := 11) (oi := ⟨some 59, _, _, _, _, _⟩) (v := ?_) rfl (by kernel_rfl) (by kernel_rfl) (by kernel_rfl) (fun _ _ _ h => h) (Or.inl ⟨by rfl, ?_⟩) (by assumption) ?_
                rotate_left
                · (intro w9 hSw; (try dsimp only at hSw); go_simp; try with_reducible rfl)
                try simp only [Act.put, List.setIfInBounds_toArray, List.set_cons_zero, List.set_cons_succ]
                refine wpAnyH_done (by kernel_rfl) ?_ _
                have HB2 := Lib.hid (bt HB.out hS1)
                have HK2 := Lib.hid (And.intro (HK.out.1.below hS1) (HK.out.2.below hS1))
                clear hba hS1 HK HB ca cb TT
                go_wp2_with fail
                exact ⟨⟨k + 1, by omega, by go_num, HE2, HK2, HB2⟩, by simp [intOf]; omega⟩
              · rw [decide_eq_false hxy] at TT
                have HN := Lib.hid (HNo.out hxy)
                clear HY HNo hxy HE
                generalize x.length = xl at ca TT
                generalize y.length = yl at cb TT
                refine wp_region_held_drew (S := fun W => Below wr.heap.size wr W) (by kernel_rfl) (by first | exact Below.refl _ _ | exact (Below.refl _ _).drew) (fun hHeld => ?_)
                refine wpAnyH_take (i := 0) (oi := ⟨some 48, _, _, _, _, _⟩) (v := ?_) rfl (by kernel_rfl) (by kernel_rfl) (by kernel_rfl) (fun _ _ _ h => h) (Or.inl ⟨by rfl, ?_⟩) (by assumption) ?_
                rotate_left
                · (intro w9 hSw; (try dsimp only at hSw); go_simp; try with_reducible rfl)
                try simp only [Act.put, List.setIfInBounds_toArray, List.set_cons_zero, List.set_cons_succ]
                refine wpAnyH_take (i := 1) (oi := ⟨some 49, _, _, _, _, _⟩) (v := .slice (some ⟨ga, oa, none⟩) m1 d1) rfl (by kernel_rfl) (by kernel_rfl) (by kernel_rfl) (fun _ _ _ h => h) (Or.inl ⟨by rfl, ?_⟩) (by assumption) ?_
                · (intro w9 hSw; have q9 := pcell1 (HK.out.1.below hSw); (try dsimp only at hSw); go_simp; try with_reducible rfl)
                try simp only [Act.put, List.setIfInBounds_toArray, List.set_cons_zero, List.set_cons_succ]
                refine wpAnyH_take (i := 2) (oi := ⟨some 50, _, _, _, _, _⟩) (v := ?_) rfl (by kernel_rfl) (by kernel_rfl) (by kernel_rfl) (fun _ _ _ h => h) (Or.inl ⟨by rfl, ?_⟩) (by assumption) ?_
                rotate_left
                · (intro w9 hSw; (try dsimp only at hSw); go_simp; try with_reducible rfl)
                try simp only [Act.put, List.setIfInBounds_toArray, List.set_cons_zero, List.set_cons_succ]
                refine wpAnyH_take (i := 3) (oi := ⟨some 51, _, _, _, _, _⟩) (v := .pointer (some ⟨ga, oa + k, none⟩)) rfl (by kernel_rfl) (by kernel_rfl) (by kernel_rfl) (fun _ _ _ h => h) (Or.inl ⟨by rfl, ?_⟩) (by assumption) ?_
                · (intro w9 hSw; (try dsimp only at hSw); go_simp; try with_reducible rfl)
                try simp only [Act.put, List.setIfInBounds_toArray, List.set_cons_zero, List.set_cons_succ]
                refine wpAnyH_take (i := 4) (oi := ⟨some 52, _, _, _, _, _⟩) (v := .slice Ba xl da) rfl (by kernel_rfl) (by kernel_rfl) (by kernel_rfl) (fun _ _ _ h => h) (Or.inl ⟨by rfl, ?_⟩) (by assumption) ?_
                · (intro w9 hSw; have q9 := cell_later hSw ca; (try dsimp only at hSw); go_simp; try with_reducible rfl)
                try simp only [Act.put, List.setIfInBounds_toArray, List.set_cons_zero, List.set_cons_succ]
                refine wpAnyH_take (i := 5) (oi := ⟨some 53, _, _, _, _, _⟩) (v := ?_) rfl (by kernel_rfl) (by kernel_rfl) (by kernel_rfl) (fun _ _ _ h => h) (Or.inl ⟨by rfl, ?_⟩) (by assumption) ?_
                rotate_left
                · (intro w9 hSw; (try dsimp only at hSw); go_simp; try with_reducible rfl)
                try simp only [Act.put, List.setIfInBounds_toArray, List.set_cons_zero, List.set_cons_succ]
                refine wpAnyH_take (i := 6) (oi := ⟨some 54, _, _, _, _, _⟩) (v := .slice (some ⟨gb, ob, none⟩) m1 d2) rfl (by kernel_rfl) (by kernel_rfl) (by kernel_rfl) (fun _ _ _ h => h) (Or.inl ⟨by rfl, ?_⟩) (by assumption) ?_
                · (intro w9 hSw; have q9 := pcell1 (HK.out.2.below hSw); (try dsimp only at hSw); go_simp; try with_reducible rfl)
                try simp only [Act.put, List.setIfInBounds_toArray, List.set_cons_zero, List.set_cons_succ]
                refine wpAnyH_take (i := 7) (oi := ⟨some 55, _, _, _, _, _⟩) (v := ?_) rfl (by kernel_rfl) (by kernel_rfl) (by kernel_rfl) (fun _ _ _ h => h) (Or.inl ⟨by rfl, ?_⟩) (by assumption) ?_
                rotate_left
                · (intro w9 hSw; (try dsimp only at hSw); go_simp; try with_reducible rfl)
                try simp only [Act.put, List.setIfInBounds_toArray, List.set_cons_zero, List.set_cons_succ]
                refine wpAnyH_take (i := 8) (oi := ⟨some 56, _, _, _, _, _⟩) (v := .pointer (some ⟨gb, ob + k, none⟩)) rfl (by kernel_rfl) (by kernel_rfl) (by kernel_rfl) (fun _ _ _ h => h) (Or.inl ⟨by rfl, ?_⟩) (by assumption) ?_
                · (intro w9 hSw; (try dsimp only at hSw); go_simp; try with_reducible rfl)
                try simp only [Act.put, List.setIfInBounds_toArray, List.set_cons_zero, List.set_cons_succ]
                refine wpAnyH_take (i := 9) (oi := ⟨some 57, _, _, _, _, _⟩) (v := .slice Bb yl db) rfl (by kernel_rfl) (by kernel_rfl) (by kernel_rfl) (fun _ _ _ h => h) (Or.inl ⟨by rfl, ?_⟩) (by assumption) ?_
                · (intro w9 hSw; have q9 := cell_later hSw cb; (try dsimp only at hSw); go_simp; try with_reducible rfl)
                try simp only [Act.put, List.setIfInBounds_toArray, List.set_cons_zero, List.set_cons_succ]
                refine wpAnyH_ready (rs := [10]) (by kernel_rfl) (by simp) ?_
                refine AllReadyH.cons (o := ⟨some 58, _, _, _, _, _⟩) rfl (fun K9 hK9 => ?_) AllReadyH.nil
                go_simp; go_at_call 20
                refine (TT.out _ (Below.refl wr.heap.size wr).drew).mono ?_
                rintro e wa ⟨rfl, hba⟩
                have hS1 := bt (Below.refl wr.heap.size wr).drew hba
                refine hK9.out _ _ ?_ (fun hHeld => ?_)
                · exact hS1
                clear hK9 K9
                try simp only [Act.put, List.setIfInBounds_toArray, List.set_cons_zero, List.set_cons_succ]
                refine wpAnyH_take (i := 11) (oi := ⟨some 59, _, _, _, _, _⟩) (v := ?_) rfl (by kernel_rfl) (by kernel_rfl) (by kernel_rfl) (fun _ _ _ h => h) (Or.inl ⟨by rfl, ?_⟩) (by assumption) ?_
                rotate_left
                · (intro w9 hSw; (try dsimp only at hSw); go_simp; try with_reducible rfl)
                try simp only [Act.put, List.setIfInBounds_toArray, List.set_cons_zero, List.set_cons_succ]
                refine wpAnyH_done (by kernel_rfl) ?_ _
                have HB2 := Lib.hid (bt HB.out hS1)
                have HK2 := Lib.hid (And.intro (HK.out.1.below hS1) (HK.out.2.below hS1))
                clear hba hS1 HK HB ca cb TT
                go_wp2
                go_ret
                exact ⟨by rw [HN.out]; rfl, HB2.out⟩
              -- end 12
            · obtain rfl : m1 = k := by omega
              have HX : Hid (decide (S = T ∧ C = D) = true) := Lib.hid (decide_eq_true ⟨HST.out, prows_ext HL.out.2.2.1 HL.out.2.2.2 HE.out⟩)
              go_wp2
              go_ret
              exact ⟨by rw [HX.out]; rfl, HB.out⟩
    · have HN : Hid (decide (S = T ∧ C = D) = false) := Lib.hid (decide_eq_false fun h => hmm (by rw [← hC, ← hD, h.2]))
      subst hnn
      have h2 : ((m1 : Int) == (m2 : Int)) = false := by simp; omega
      have h3 : ((m1 : Int) != (m2 : Int)) = true := by simp; omega
      clear hmm hA1 hA2 hB1 hB2
      unfold pb2 at *
      go_enter Tryz.func10, Tryz.ntmps10
      go_wp2
      go_ret
      exact ⟨by rw [HN.out]; rfl, HB0.out⟩
  · have HN : Hid (decide (S = T ∧ C = D) = false) := Lib.hid (decide_eq_false fun h => hnn (by rw [← hS, ← hT, h.1]))
    have h2 : ((n1 : Int) == (n2 : Int)) = false := by simp; omega
    have h3 : ((n1 : Int) != (n2 : Int)) = true := by simp; omega
    clear hnn hA1 hA2 hB1 hB2
    unfold pb2 at *
    go_enter Tryz.func10, Tryz.ntmps10
    go_wp2
    go_ret
    exact ⟨by rw [HN.out]; rfl, HB0.out⟩
end Go.Proofs.YtjonhenllhnibaaGreatDoor
