/- Texts of this seat, one behind the other: PLawC. -/
import Derived.Deep.QuietTactic
import Derived.Deep.CutRange
import Derived.Deep.DeepCutAuto
import Derived.Test.YtjonhenllhnibaaGreatDoorQ22
import Derived.Test.YtjonhenllhnibaaGreatDoorQ30
import Derived.Test.YtjonhenllhnibaaGreatDoorQ31
/- The walk of ProofChecks. -/
namespace Go.Proofs.YtjonhenllhnibaaGreatDoor
open Go.RowKit

theorem pcut66 (G : List (List (List UInt8))) : ∀ j, ((pcut G).getD j []).length ≤ 65536 := fun j => Nat.le_trans ((pcut_small G).2 j) (by omega)
theorem plsame (A B : Option Addr) (c d n : Nat) (P : List (List UInt8)) (w : World) (hA : SR w A P) (hB : SR w B P) (hl : P.length = n) (hn : n ≤ 65536) :
    Calls Tryz.prog 20 #[.slice A n c, .slice B n d] w fun e w' => e = .returned (.bool true) ∧ Below w.heap.size w w' := by
  have h := jsame_any A B c d n n P P w hA hB hl hl hn hn
  rwa [show decide (P = P) = true from decide_eq_true rfl] at h

set_option maxRecDepth 100000 in
set_option maxHeartbeats 16000000 in
theorem plawC_any (r xs : List UInt8) (xk n c m d : Nat) (A B : Option Addr) (G F : List (List (List UInt8))) (w : World) (hk : xk < 18446744073709551616) (hA : LR w A G) (hB : LR w B F) (hl : G.length = n) (hm : F.length = m) (hc : n ≤ c) (hd : m ≤ d) (hs : PSmall G) (ht : PSmall F) (hT : VTab w) :
    Calls Tryz.prog 4 #[.string ⟨r.toArray⟩, piv xk xs, pfv A n c B m d] w fun e w' => e = .returned (.bool true) ∧ Below w.heap.size w w' := by
  have HFW := Lib.hid (fun W (hb : Below w.heap.size w W) => pfew_any A B c n d m G F W (hA.later hb) (hB.later hb) hl hm hc hd hs ht)
  have HAL := Lib.hid (fun W (hb : Below w.heap.size w W) => palive_any W (hT.later hb))
  have hnG := (pcut_small G).1
  have hnF := (pcut_small F).1
  have hG6 := pcut66 G
  have hF6 := pcut66 F
  have hz := isize xs
  obtain ⟨xl, hxl⟩ : ∃ xl, xs.length = xl := ⟨_, rfl⟩
  obtain ⟨a, ha⟩ : ∃ a, min xl 70 = a := ⟨_, rfl⟩
  have hex := extract_take xs a
  have hal : (xs.take a).length = a := by rw [List.length_take, hxl]; omega
  rw [hxl] at hz
  have j1 : min (xl : Int) 70 = (a : Int) := by omega
  have j2 : (a : Int) ≤ (xl : Int) := by omega
  have j3 : a ≤ xl := by omega
  clear hA hB hl hm hc hd hs ht hT hxl
  generalize hGG : pcut G = CG at *
  generalize hFF : pcut F = CF at *
  clear hGG hFF
  obtain ⟨nG, hng⟩ : ∃ nG, CG.length = nG := ⟨_, rfl⟩
  obtain ⟨nF, hnf⟩ : ∃ nF, CF.length = nF := ⟨_, rfl⟩
  rw [hng] at hnG HFW
  rw [hnf] at hnF HFW
  have hb0 := pbx_below w xk xs A n c B m d
  have hk0 : Blk (pbx w xk xs A n c B m d) w.heap.size 42 #[.int .u64 (xk : Int), sv xs] := (Blk.new w _ _).alloc _
  have hk1 : Blk (pbx w xk xs A n c B m d) (w.heap.size + 1) 26 #[.slice A n c, .slice B m d] := Blk.newAt (by simp) _ _
  unfold pbx at *
  have hic : Hid (∀ W, Below w.heap.size w W → True) := Lib.hid fun _ _ => trivial
  clear hic
  go_enter Tryz.func4, Tryz.ntmps4
  go_upto_region 1 with fail
  generalize (w.alloc (.cells #[.int .u64 (xk : Int), sv xs] 42)).alloc (.cells #[.slice A n c, .slice B m d] 26) = w1 at hk0 hk1 hb0 ⊢
  have HK0 := Lib.hid (show Blk w1.drew w.heap.size 42 #[.int .u64 (xk : Int), sv xs] from hk0)
  have HK1 := Lib.hid (show Blk w1.drew (w.heap.size + 1) 26 #[.slice A n c, .slice B m d] from hk1)
  have HB0 := Lib.hid hb0.drew
  have c0 := pcell0 hk0
  have c1 := pcell1 hk0
  have c2 := pcell0 hk1
  have c3 := pcell1 hk1
  have HLT := Lib.hid hk1.lt
  clear hk0 hk1 hb0
  go_cut [] from 13 to 23 (fun wx => ∃ X c1 Y c2, Hid (Blk wx w.heap.size 42 #[.int .u64 (xk : Int), sv (xs.take a)]) ∧ Hid (Blk wx (w.heap.size + 1) 26 #[.slice X nG c1, .slice Y nF c2]) ∧ Hid (LR wx X CG) ∧ Hid (LR wx Y CF) ∧ Hid (Below w.heap.size w wx))
  case first =>
    -- region 1
    refine wp_region_held_drew (S := fun _ => True) (by kernel_rfl) trivial (fun hHeld => ?_)
    refine wpAnyH_take (i := 0) (oi := ⟨some 13, _, _, _, _, _⟩) (v := ?_) rfl (by kernel_rfl) (by kernel_rfl) (by kernel_rfl) (fun _ _ _ h => h) (Or.inl ⟨by rfl, ?_⟩) (by assumption) ?_
    rotate_left
    · (intro w9 hSw; (try dsimp only at hSw); go_simp; try with_reducible rfl)
    try simp only [Act.put, List.setIfInBounds_toArray, List.set_cons_zero, List.set_cons_succ]
    refine wpAnyH_take (i := 2) (oi := ⟨some 15, _, _, _, _, _⟩) (v := ?_) rfl (by kernel_rfl) (by kernel_rfl) (by kernel_rfl) (fun _ _ _ h => h) (Or.inl ⟨by rfl, ?_⟩) (by assumption) ?_
    rotate_left
    · (intro w9 hSw; (try dsimp only at hSw); go_simp; try with_reducible rfl)
    try simp only [Act.put, List.setIfInBounds_toArray, List.set_cons_zero, List.set_cons_succ]
    refine wpAnyH_ready (rs := [1, 3, 7]) (by kernel_rfl) (by simp) ?_
    refine AllReadyH.cons (o := ⟨some 14, _, _, _, _, _⟩) rfl (fun K9 hK9 => ?_) ?_
    · skip
      go_simp
      refine hK9.out _ _ ?_ (fun hHeld => ?_)
      · trivial
      clear hK9 K9
      try simp only [Act.put, List.setIfInBounds_toArray, List.set_cons_zero, List.set_cons_succ]
      refine wpAnyH_ready (rs := [3, 7]) (by kernel_rfl) (by simp) ?_
      refine AllReadyH.cons (o := ⟨some 16, _, _, _, _, _⟩) rfl (fun K9 hK9 => ?_) ?_
      · skip
        go_simp
        refine hK9.out _ _ ?_ (fun hHeld => ?_)
        · trivial
        clear hK9 K9
        try simp only [Act.put, List.setIfInBounds_toArray, List.set_cons_zero, List.set_cons_succ]
        refine wpAnyH_take (i := 4) (oi := ⟨some 17, _, _, _, _, _⟩) (v := .int .i64 (xl : Int)) rfl (by kernel_rfl) (by kernel_rfl) (by kernel_rfl) (fun _ _ _ h => h) (Or.inl ⟨by rfl, ?_⟩) (by assumption) ?_
        · (intro w9 hSw; (try dsimp only at hSw); go_simp; try with_reducible rfl)
        try simp only [Act.put, List.setIfInBounds_toArray, List.set_cons_zero, List.set_cons_succ]
        refine wpAnyH_take (i := 5) (oi := ⟨some 18, _, _, _, _, _⟩) (v := .int .i64 (a : Int)) rfl (by kernel_rfl) (by kernel_rfl) (by kernel_rfl) (fun _ _ _ h => h) (Or.inl ⟨by rfl, ?_⟩) (by assumption) ?_
        · (intro w9 hSw; (try dsimp only at hSw); go_simp; try with_reducible rfl)
        try simp only [Act.put, List.setIfInBounds_toArray, List.set_cons_zero, List.set_cons_succ]
        refine wpAnyH_take (i := 6) (oi := ⟨some 19, _, _, _, _, _⟩) (v := sv (xs.take a)) rfl (by kernel_rfl) (by kernel_rfl) (by kernel_rfl) (fun _ _ _ h => h) (Or.inl ⟨by rfl, ?_⟩) (by assumption) ?_
        · (intro w9 hSw; (try dsimp only at hSw); go_simp; try with_reducible rfl)
        try simp only [Act.put, List.setIfInBounds_toArray, List.set_cons_zero, List.set_cons_succ]
        refine wpAnyH_take (i := 9) (oi := ⟨some 22, _, _, _, _, _⟩) (v := ?_) rfl (by kernel_rfl) (by kernel_rfl) (by kernel_rfl) (fun _ _ _ h => h) (Or.inl ⟨by rfl, ?_⟩) (by assumption) ?_
        rotate_left
        · (intro w9 hSw; (try dsimp only at hSw); go_simp; try with_reducible rfl)
        try simp only [Act.put, List.setIfInBounds_toArray, List.set_cons_zero, List.set_cons_succ]
        refine wpAnyH_ready (rs := [7]) (by kernel_rfl) (by simp) ?_
        refine AllReadyH.cons (o := ⟨some 20, _, _, _, _, _⟩) rfl (fun K9 hK9 => ?_) AllReadyH.nil
        go_simp
        refine hK9.out _ _ ?_ (fun hHeld => ?_)
        · trivial
        clear hK9 K9
        try simp only [Act.put, List.setIfInBounds_toArray, List.set_cons_zero, List.set_cons_succ]
        refine wpAnyH_ready (rs := [8]) (by kernel_rfl) (by simp) ?_
        refine AllReadyH.cons (o := ⟨some 21, _, _, _, _, _⟩) rfl (fun K9 hK9 => ?_) AllReadyH.nil
        go_simp; go_at_call 7
        refine (HFW.out _ HB0.out).mono ?_
        rintro e wa ⟨X, e1, Y, e2, rfl, hLX, hLY, hba⟩
        have hK0 := HK0.out.below hba
        have hK1 := HK1.out.below hba
        have d1 := pcell1 hK0
        have f1 := hK0.frozen 1
        have d2 := pcell0 hK1
        have d3 := pcell1 hK1
        have f2 := hK1.frozen 0
        have f3 := hK1.frozen 1
        have hK0b := ((hK0.set_ 1 (sv (xs.take a))).far (p := ⟨w.heap.size + 1, 0, none⟩) (by simp) (.slice X nG e1)).far (p := ⟨w.heap.size + 1, 1, none⟩) (by simp) (.slice Y nF e2)
        have hK1b := ((hK1.far (p := ⟨w.heap.size, 1, none⟩) (by simp) (sv (xs.take a))).set_ 0 (.slice X nG e1)).set_ 1 (.slice Y nF e2)
        have hw2 : w.heap.size + 1 + 1 ≤ w1.heap.size := HLT.out
        have LX := Lib.hid (((((show LF w1.heap.size _ X CG from hLX).base hw2).set_ (b := w.heap.size) (o := 1) (v := sv (xs.take a)) (by omega)).set_ (b := w.heap.size + 1) (o := 0) (v := .slice X nG e1) (by omega)).set_ (b := w.heap.size + 1) (o := 1) (v := .slice Y nF e2) (by omega)).lr
        have LY := Lib.hid (((((show LF w1.heap.size _ Y CF from hLY).base hw2).set_ (b := w.heap.size) (o := 1) (v := sv (xs.take a)) (by omega)).set_ (b := w.heap.size + 1) (o := 0) (v := .slice X nG e1) (by omega)).set_ (b := w.heap.size + 1) (o := 1) (v := .slice Y nF e2) (by omega)).lr
        have BB := Lib.hid (bs (b := w.heap.size + 1) (o := 1) (bs (b := w.heap.size + 1) (o := 0) (bs (b := w.heap.size) (o := 1) (bt HB0.out hba) (Nat.le_refl _) (sv (xs.take a))) (by omega) (.slice X nG e1)) (by omega) (.slice Y nF e2))
        have KA := Lib.hid hK0b
        have KB := Lib.hid hK1b
        clear hK0b hK1b hLX hLY hba hK0 hK1
        refine hK9.out _ _ ?_ (fun hHeld => ?_)
        · trivial
        clear hK9 K9
        try simp only [Act.put, List.setIfInBounds_toArray, List.set_cons_zero, List.set_cons_succ]
        refine wpAnyH_ready (rs := [10]) (by kernel_rfl) (by simp) ?_
        refine AllReadyH.cons (o := ⟨none, _, _, _, _, _⟩) rfl (fun K9 hK9 => ?_) AllReadyH.nil
        go_simp
        refine hK9.out _ _ ?_ (fun hHeld => ?_)
        · trivial
        clear hK9 K9
        try simp only [Act.put]
        refine wpAnyH_ready (rs := [11]) (by kernel_rfl) (by simp) ?_
        refine AllReadyH.cons (o := ⟨none, _, _, _, _, _⟩) rfl (fun K9 hK9 => ?_) AllReadyH.nil
        go_simp
        refine hK9.out _ _ ?_ (fun hHeld => ?_)
        · trivial
        clear hK9 K9
        try simp only [Act.put]
        refine wpAnyH_done (by kernel_rfl) ?_ _
        go_wp2_with fail
        go_meet
        exact ⟨X, e1, Y, e2, KA, KB, LX, LY, BB⟩
      refine AllReadyH.cons (o := ⟨some 20, _, _, _, _, _⟩) rfl (fun K9 hK9 => ?_) AllReadyH.nil
      · skip
        go_simp
        refine hK9.out _ _ ?_ (fun hHeld => ?_)
        · trivial
        clear hK9 K9
        try simp only [Act.put, List.setIfInBounds_toArray, List.set_cons_zero, List.set_cons_succ]
        refine wpAnyH_ready (rs := [3, 8]) (by kernel_rfl) (by simp) ?_
        refine AllReadyH.cons (o := ⟨some 16, _, _, _, _, _⟩) rfl (fun K9 hK9 => ?_) ?_
        · skip
          go_simp
          refine hK9.out _ _ ?_ (fun hHeld => ?_)
          · trivial
          clear hK9 K9
          try simp only [Act.put, List.setIfInBounds_toArray, List.set_cons_zero, List.set_cons_succ]
          refine wpAnyH_take (i := 4) (oi := ⟨some 17, _, _, _, _, _⟩) (v := .int .i64 (xl : Int)) rfl (by kernel_rfl) (by kernel_rfl) (by kernel_rfl) (fun _ _ _ h => h) (Or.inl ⟨by rfl, ?_⟩) (by assumption) ?_
          · (intro w9 hSw; (try dsimp only at hSw); go_simp; try with_reducible rfl)
          try simp only [Act.put, List.setIfInBounds_toArray, List.set_cons_zero, List.set_cons_succ]
          refine wpAnyH_take (i := 5) (oi := ⟨some 18, _, _, _, _, _⟩) (v := .int .i64 (a : Int)) rfl (by kernel_rfl) (by kernel_rfl) (by kernel_rfl) (fun _ _ _ h => h) (Or.inl ⟨by rfl, ?_⟩) (by assumption) ?_
          · (intro w9 hSw; (try dsimp only at hSw); go_simp; try with_reducible rfl)
          try simp only [Act.put, List.setIfInBounds_toArray, List.set_cons_zero, List.set_cons_succ]
          refine wpAnyH_take (i := 6) (oi := ⟨some 19, _, _, _, _, _⟩) (v := sv (xs.take a)) rfl (by kernel_rfl) (by kernel_rfl) (by kernel_rfl) (fun _ _ _ h => h) (Or.inl ⟨by rfl, ?_⟩) (by assumption) ?_
          · (intro w9 hSw; (try dsimp only at hSw); go_simp; try with_reducible rfl)
          try simp only [Act.put, List.setIfInBounds_toArray, List.set_cons_zero, List.set_cons_succ]
          refine wpAnyH_take (i := 9) (oi := ⟨some 22, _, _, _, _, _⟩) (v := ?_) rfl (by kernel_rfl) (by kernel_rfl) (by kernel_rfl) (fun _ _ _ h => h) (Or.inl ⟨by rfl, ?_⟩) (by assumption) ?_
          rotate_left
          · (intro w9 hSw; (try dsimp only at hSw); go_simp; try with_reducible rfl)
          try simp only [Act.put, List.setIfInBounds_toArray, List.set_cons_zero, List.set_cons_succ]
          refine wpAnyH_ready (rs := [8]) (by kernel_rfl) (by simp) ?_
          refine AllReadyH.cons (o := ⟨some 21, _, _, _, _, _⟩) rfl (fun K9 hK9 => ?_) AllReadyH.nil
          go_simp; go_at_call 7
          refine (HFW.out _ HB0.out).mono ?_
          rintro e wa ⟨X, e1, Y, e2, rfl, hLX, hLY, hba⟩
          have hK0 := HK0.out.below hba
          have hK1 := HK1.out.below hba
          have d1 := pcell1 hK0
          have f1 := hK0.frozen 1
          have d2 := pcell0 hK1
          have d3 := pcell1 hK1
          have f2 := hK1.frozen 0
          have f3 := hK1.frozen 1
          have hK0b := ((hK0.set_ 1 (sv (xs.take a))).far (p := ⟨w.heap.size + 1, 0, none⟩) (by simp) (.slice X nG e1)).far (p := ⟨w.heap.size + 1, 1, none⟩) (by simp) (.slice Y nF e2)
          have hK1b := ((hK1.far (p := ⟨w.heap.size, 1, none⟩) (by simp) (sv (xs.take a))).set_ 0 (.slice X nG e1)).set_ 1 (.slice Y nF e2)
          have hw2 : w.heap.size + 1 + 1 ≤ w1.heap.size := HLT.out
          have LX := Lib.hid (((((show LF w1.heap.size _ X CG from hLX).base hw2).set_ (b := w.heap.size) (o := 1) (v := sv (xs.take a)) (by omega)).set_ (b := w.heap.size + 1) (o := 0) (v := .slice X nG e1) (by omega)).set_ (b := w.heap.size + 1) (o := 1) (v := .slice Y nF e2) (by omega)).lr
          have LY := Lib.hid (((((show LF w1.heap.size _ Y CF from hLY).base hw2).set_ (b := w.heap.size) (o := 1) (v := sv (xs.take a)) (by omega)).set_ (b := w.heap.size + 1) (o := 0) (v := .slice X nG e1) (by omega)).set_ (b := w.heap.size + 1) (o := 1) (v := .slice Y nF e2) (by omega)).lr
          have BB := Lib.hid (bs (b := w.heap.size + 1) (o := 1) (bs (b := w.heap.size + 1) (o := 0) (bs (b := w.heap.size) (o := 1) (bt HB0.out hba) (Nat.le_refl _) (sv (xs.take a))) (by omega) (.slice X nG e1)) (by omega) (.slice Y nF e2))
          have KA := Lib.hid hK0b
          have KB := Lib.hid hK1b
          clear hK0b hK1b hLX hLY hba hK0 hK1
          refine hK9.out _ _ ?_ (fun hHeld => ?_)
          · trivial
          clear hK9 K9
          try simp only [Act.put, List.setIfInBounds_toArray, List.set_cons_zero, List.set_cons_succ]
          refine wpAnyH_ready (rs := [10]) (by kernel_rfl) (by simp) ?_
          refine AllReadyH.cons (o := ⟨none, _, _, _, _, _⟩) rfl (fun K9 hK9 => ?_) AllReadyH.nil
          go_simp
          refine hK9.out _ _ ?_ (fun hHeld => ?_)
          · trivial
          clear hK9 K9
          try simp only [Act.put]
          refine wpAnyH_ready (rs := [11]) (by kernel_rfl) (by simp) ?_
          refine AllReadyH.cons (o := ⟨none, _, _, _, _, _⟩) rfl (fun K9 hK9 => ?_) AllReadyH.nil
          go_simp
          refine hK9.out _ _ ?_ (fun hHeld => ?_)
          · trivial
          clear hK9 K9
          try simp only [Act.put]
          refine wpAnyH_done (by kernel_rfl) ?_ _
          go_wp2_with fail
          go_meet
          exact ⟨X, e1, Y, e2, KA, KB, LX, LY, BB⟩
        refine AllReadyH.cons (o := ⟨some 21, _, _, _, _, _⟩) rfl (fun K9 hK9 => ?_) AllReadyH.nil
        · skip
          go_simp; go_at_call 7
          refine (HFW.out _ HB0.out).mono ?_
          rintro e wa ⟨X, e1, Y, e2, rfl, hLX, hLY, hba⟩
          have hK0 := HK0.out.below hba
          have hK1 := HK1.out.below hba
          have d1 := pcell1 hK0
          have f1 := hK0.frozen 1
          have d2 := pcell0 hK1
          have d3 := pcell1 hK1
          have f2 := hK1.frozen 0
          have f3 := hK1.frozen 1
          have hK0b := ((hK0.set_ 1 (sv (xs.take a))).far (p := ⟨w.heap.size + 1, 0, none⟩) (by simp) (.slice X nG e1)).far (p := ⟨w.heap.size + 1, 1, none⟩) (by simp) (.slice Y nF e2)
          have hK1b := ((hK1.far (p := ⟨w.heap.size, 1, none⟩) (by simp) (sv (xs.take a))).set_ 0 (.slice X nG e1)).set_ 1 (.slice Y nF e2)
          have hw2 : w.heap.size + 1 + 1 ≤ w1.heap.size := HLT.out
          have LX := Lib.hid (((((show LF w1.heap.size _ X CG from hLX).base hw2).set_ (b := w.heap.size) (o := 1) (v := sv (xs.take a)) (by omega)).set_ (b := w.heap.size + 1) (o := 0) (v := .slice X nG e1) (by omega)).set_ (b := w.heap.size + 1) (o := 1) (v := .slice Y nF e2) (by omega)).lr
          have LY := Lib.hid (((((show LF w1.heap.size _ Y CF from hLY).base hw2).set_ (b := w.heap.size) (o := 1) (v := sv (xs.take a)) (by omega)).set_ (b := w.heap.size + 1) (o := 0) (v := .slice X nG e1) (by omega)).set_ (b := w.heap.size + 1) (o := 1) (v := .slice Y nF e2) (by omega)).lr
          have BB := Lib.hid (bs (b := w.heap.size + 1) (o := 1) (bs (b := w.heap.size + 1) (o := 0) (bs (b := w.heap.size) (o := 1) (bt HB0.out hba) (Nat.le_refl _) (sv (xs.take a))) (by omega) (.slice X nG e1)) (by omega) (.slice Y nF e2))
          have KA := Lib.hid hK0b
          have KB := Lib.hid hK1b
          clear hK0b hK1b hLX hLY hba hK0 hK1
          refine hK9.out _ _ ?_ (fun hHeld => ?_)
          · trivial
          clear hK9 K9
          try simp only [Act.put, List.setIfInBounds_toArray, List.set_cons_zero, List.set_cons_succ]
          refine wpAnyH_ready (rs := [3]) (by kernel_rfl) (by simp) ?_
          refine AllReadyH.cons (o := ⟨some 16, _, _, _, _, _⟩) rfl (fun K9 hK9 => ?_) AllReadyH.nil
          go_simp
          refine hK9.out _ _ ?_ (fun hHeld => ?_)
          · trivial
          clear hK9 K9
          try simp only [Act.put, List.setIfInBounds_toArray, List.set_cons_zero, List.set_cons_succ]
          refine wpAnyH_take (i := 4) (oi := ⟨some 17, _, _, _, _, _⟩) (v := .int .i64 (xl : Int)) rfl (by kernel_rfl) (by kernel_rfl) (by kernel_rfl) (fun _ _ _ h => h) (Or.inl ⟨by rfl, ?_⟩) (by assumption) ?_
          · (intro w9 hSw; (try dsimp only at hSw); go_simp; try with_reducible rfl)
          try simp only [Act.put, List.setIfInBounds_toArray, List.set_cons_zero, List.set_cons_succ]
          refine wpAnyH_take (i := 5) (oi := ⟨some 18, _, _, _, _, _⟩) (v := .int .i64 (a : Int)) rfl (by kernel_rfl) (by kernel_rfl) (by kernel_rfl) (fun _ _ _ h => h) (Or.inl ⟨by rfl, ?_⟩) (by assumption) ?_
          · (intro w9 hSw; (try dsimp only at hSw); go_simp; try with_reducible rfl)
          try simp only [Act.put, List.setIfInBounds_toArray, List.set_cons_zero, List.set_cons_succ]
          refine wpAnyH_take (i := 6) (oi := ⟨some 19, _, _, _, _, _⟩) (v := sv (xs.take a)) rfl (by kernel_rfl) (by kernel_rfl) (by kernel_rfl) (fun _ _ _ h => h) (Or.inl ⟨by rfl, ?_⟩) (by assumption) ?_
          · (intro w9 hSw; (try dsimp only at hSw); go_simp; try with_reducible rfl)
          try simp only [Act.put, List.setIfInBounds_toArray, List.set_cons_zero, List.set_cons_succ]
          refine wpAnyH_take (i := 9) (oi := ⟨some 22, _, _, _, _, _⟩) (v := ?_) rfl (by kernel_rfl) (by kernel_rfl) (by kernel_rfl) (fun _ _ _ h => h) (Or.inl ⟨by rfl, ?_⟩) (by assumption) ?_
          rotate_left
          · (intro w9 hSw; (try dsimp only at hSw); go_simp; try with_reducible rfl)
          try simp only [Act.put, List.setIfInBounds_toArray, List.set_cons_zero, List.set_cons_succ]
          refine wpAnyH_ready (rs := [10]) (by kernel_rfl) (by simp) ?_
          refine AllReadyH.cons (o := ⟨none, _, _, _, _, _⟩) rfl (fun K9 hK9 => ?_) AllReadyH.nil
          go_simp
          refine hK9.out _ _ ?_ (fun hHeld => ?_)
          · trivial
          clear hK9 K9
          try simp only [Act.put]
          refine wpAnyH_ready (rs := [11]) (by kernel_rfl) (by simp) ?_
          refine AllReadyH.cons (o := ⟨none, _, _, _, _, _⟩) rfl (fun K9 hK9 => ?_) AllReadyH.nil
          go_simp
          refine hK9.out _ _ ?_ (fun hHeld => ?_)
          · trivial
          clear hK9 K9
          try simp only [Act.put]
          refine wpAnyH_done (by kernel_rfl) ?_ _
          go_wp2_with fail
          go_meet
          exact ⟨X, e1, Y, e2, KA, KB, LX, LY, BB⟩
    refine AllReadyH.cons (o := ⟨some 16, _, _, _, _, _⟩) rfl (fun K9 hK9 => ?_) ?_
    · skip
      go_simp
      refine hK9.out _ _ ?_ (fun hHeld => ?_)
      · trivial
      clear hK9 K9
      try simp only [Act.put, List.setIfInBounds_toArray, List.set_cons_zero, List.set_cons_succ]
      refine wpAnyH_take (i := 4) (oi := ⟨some 17, _, _, _, _, _⟩) (v := .int .i64 (xl : Int)) rfl (by kernel_rfl) (by kernel_rfl) (by kernel_rfl) (fun _ _ _ h => h) (Or.inl ⟨by rfl, ?_⟩) (by assumption) ?_
      · (intro w9 hSw; (try dsimp only at hSw); go_simp; try with_reducible rfl)
      try simp only [Act.put, List.setIfInBounds_toArray, List.set_cons_zero, List.set_cons_succ]
      refine wpAnyH_take (i := 5) (oi := ⟨some 18, _, _, _, _, _⟩) (v := .int .i64 (a : Int)) rfl (by kernel_rfl) (by kernel_rfl) (by kernel_rfl) (fun _ _ _ h => h) (Or.inl ⟨by rfl, ?_⟩) (by assumption) ?_
      · (intro w9 hSw; (try dsimp only at hSw); go_simp; try with_reducible rfl)
      try simp only [Act.put, List.setIfInBounds_toArray, List.set_cons_zero, List.set_cons_succ]
      refine wpAnyH_ready (rs := [1, 7]) (by kernel_rfl) (by simp) ?_
      refine AllReadyH.cons (o := ⟨some 14, _, _, _, _, _⟩) rfl (fun K9 hK9 => ?_) ?_
      · skip
        go_simp
        refine hK9.out _ _ ?_ (fun hHeld => ?_)
        · trivial
        clear hK9 K9
        try simp only [Act.put, List.setIfInBounds_toArray, List.set_cons_zero, List.set_cons_succ]
        refine wpAnyH_take (i := 6) (oi := ⟨some 19, _, _, _, _, _⟩) (v := sv (xs.take a)) rfl (by kernel_rfl) (by kernel_rfl) (by kernel_rfl) (fun _ _ _ h => h) (Or.inl ⟨by rfl, ?_⟩) (by assumption) ?_
        · (intro w9 hSw; (try dsimp only at hSw); go_simp; try with_reducible rfl)
        try simp only [Act.put, List.setIfInBounds_toArray, List.set_cons_zero, List.set_cons_succ]
        refine wpAnyH_take (i := 9) (oi := ⟨some 22, _, _, _, _, _⟩) (v := ?_) rfl (by kernel_rfl) (by kernel_rfl) (by kernel_rfl) (fun _ _ _ h => h) (Or.inl ⟨by rfl, ?_⟩) (by assumption) ?_
        rotate_left
        · (intro w9 hSw; (try dsimp only at hSw); go_simp; try with_reducible rfl)
        try simp only [Act.put, List.setIfInBounds_toArray, List.set_cons_zero, List.set_cons_succ]
        refine wpAnyH_ready (rs := [7]) (by kernel_rfl) (by simp) ?_
        refine AllReadyH.cons (o := ⟨some 20, _, _, _, _, _⟩) rfl (fun K9 hK9 => ?_) AllReadyH.nil
        go_simp
        refine hK9.out _ _ ?_ (fun hHeld => ?_)
        · trivial
        clear hK9 K9
        try simp only [Act.put, List.setIfInBounds_toArray, List.set_cons_zero, List.set_cons_succ]
        refine wpAnyH_ready (rs := [8]) (by kernel_rfl) (by simp) ?_
        refine AllReadyH.cons (o := ⟨some 21, _, _, _, _, _⟩) rfl (fun K9 hK9 => ?_) AllReadyH.nil
        go_simp; go_at_call 7
        refine (HFW.out _ HB0.out).mono ?_
        rintro e wa ⟨X, e1, Y, e2, rfl, hLX, hLY, hba⟩
        have hK0 := HK0.out.below hba
        have hK1 := HK1.out.below hba
        have d1 := pcell1 hK0
        have f1 := hK0.frozen 1
        have d2 := pcell0 hK1
        have d3 := pcell1 hK1
        have f2 := hK1.frozen 0
        have f3 := hK1.frozen 1
        have hK0b := ((hK0.set_ 1 (sv (xs.take a))).far (p := ⟨w.heap.size + 1, 0, none⟩) (by simp) (.slice X nG e1)).far (p := ⟨w.heap.size + 1, 1, none⟩) (by simp) (.slice Y nF e2)
        have hK1b := ((hK1.far (p := ⟨w.heap.size, 1, none⟩) (by simp) (sv (xs.take a))).set_ 0 (.slice X nG e1)).set_ 1 (.slice Y nF e2)
        have hw2 : w.heap.size + 1 + 1 ≤ w1.heap.size := HLT.out
        have LX := Lib.hid (((((show LF w1.heap.size _ X CG from hLX).base hw2).set_ (b := w.heap.size) (o := 1) (v := sv (xs.take a)) (by omega)).set_ (b := w.heap.size + 1) (o := 0) (v := .slice X nG e1) (by omega)).set_ (b := w.heap.size + 1) (o := 1) (v := .slice Y nF e2) (by omega)).lr
        have LY := Lib.hid (((((show LF w1.heap.size _ Y CF from hLY).base hw2).set_ (b := w.heap.size) (o := 1) (v := sv (xs.take a)) (by omega)).set_ (b := w.heap.size + 1) (o := 0) (v := .slice X nG e1) (by omega)).set_ (b := w.heap.size + 1) (o := 1) (v := .slice Y nF e2) (by omega)).lr
        have BB := Lib.hid (bs (b := w.heap.size + 1) (o := 1) (bs (b := w.heap.size + 1) (o := 0) (bs (b := w.heap.size) (o := 1) (bt HB0.out hba) (Nat.le_refl _) (sv (xs.take a))) (by omega) (.slice X nG e1)) (by omega) (.slice Y nF e2))
        have KA := Lib.hid hK0b
        have KB := Lib.hid hK1b
        clear hK0b hK1b hLX hLY hba hK0 hK1
        refine hK9.out _ _ ?_ (fun hHeld => ?_)
        · trivial
        clear hK9 K9
        try simp only [Act.put, List.setIfInBounds_toArray, List.set_cons_zero, List.set_cons_succ]
        refine wpAnyH_ready (rs := [10]) (by kernel_rfl) (by simp) ?_
        refine AllReadyH.cons (o := ⟨none, _, _, _, _, _⟩) rfl (fun K9 hK9 => ?_) AllReadyH.nil
        go_simp
        refine hK9.out _ _ ?_ (fun hHeld => ?_)
        · trivial
        clear hK9 K9
        try simp only [Act.put]
        refine wpAnyH_ready (rs := [11]) (by kernel_rfl) (by simp) ?_
        refine AllReadyH.cons (o := ⟨none, _, _, _, _, _⟩) rfl (fun K9 hK9 => ?_) AllReadyH.nil
        go_simp
        refine hK9.out _ _ ?_ (fun hHeld => ?_)
        · trivial
        clear hK9 K9
        try simp only [Act.put]
        refine wpAnyH_done (by kernel_rfl) ?_ _
        go_wp2_with fail
        go_meet
        exact ⟨X, e1, Y, e2, KA, KB, LX, LY, BB⟩
      refine AllReadyH.cons (o := ⟨some 20, _, _, _, _, _⟩) rfl (fun K9 hK9 => ?_) AllReadyH.nil
      · skip
        go_simp
        refine hK9.out _ _ ?_ (fun hHeld => ?_)
        · trivial
        clear hK9 K9
        try simp only [Act.put, List.setIfInBounds_toArray, List.set_cons_zero, List.set_cons_succ]
        refine wpAnyH_ready (rs := [1, 8]) (by kernel_rfl) (by simp) ?_
        refine AllReadyH.cons (o := ⟨some 14, _, _, _, _, _⟩) rfl (fun K9 hK9 => ?_) ?_
        · skip
          go_simp
          refine hK9.out _ _ ?_ (fun hHeld => ?_)
          · trivial
          clear hK9 K9
          try simp only [Act.put, List.setIfInBounds_toArray, List.set_cons_zero, List.set_cons_succ]
          refine wpAnyH_take (i := 6) (oi := ⟨some 19, _, _, _, _, _⟩) (v := sv (xs.take a)) rfl (by kernel_rfl) (by kernel_rfl) (by kernel_rfl) (fun _ _ _ h => h) (Or.inl ⟨by rfl, ?_⟩) (by assumption) ?_
          · (intro w9 hSw; (try dsimp only at hSw); go_simp; try with_reducible rfl)
          try simp only [Act.put, List.setIfInBounds_toArray, List.set_cons_zero, List.set_cons_succ]
          refine wpAnyH_take (i := 9) (oi := ⟨some 22, _, _, _, _, _⟩) (v := ?_) rfl (by kernel_rfl) (by kernel_rfl) (by kernel_rfl) (fun _ _ _ h => h) (Or.inl ⟨by rfl, ?_⟩) (by assumption) ?_
          rotate_left
          · (intro w9 hSw; (try dsimp only at hSw); go_simp; try with_reducible rfl)
          try simp only [Act.put, List.setIfInBounds_toArray, List.set_cons_zero, List.set_cons_succ]
          refine wpAnyH_ready (rs := [8]) (by kernel_rfl) (by simp) ?_
          refine AllReadyH.cons (o := ⟨some 21, _, _, _, _, _⟩) rfl (fun K9 hK9 => ?_) AllReadyH.nil
          go_simp; go_at_call 7
          refine (HFW.out _ HB0.out).mono ?_
          rintro e wa ⟨X, e1, Y, e2, rfl, hLX, hLY, hba⟩
          have hK0 := HK0.out.below hba
          have hK1 := HK1.out.below hba
          have d1 := pcell1 hK0
          have f1 := hK0.frozen 1
          have d2 := pcell0 hK1
          have d3 := pcell1 hK1
          have f2 := hK1.frozen 0
          have f3 := hK1.frozen 1
          have hK0b := ((hK0.set_ 1 (sv (xs.take a))).far (p := ⟨w.heap.size + 1, 0, none⟩) (by simp) (.slice X nG e1)).far (p := ⟨w.heap.size + 1, 1, none⟩) (by simp) (.slice Y nF e2)
          have hK1b := ((hK1.far (p := ⟨w.heap.size, 1, none⟩) (by simp) (sv (xs.take a))).set_ 0 (.slice X nG e1)).set_ 1 (.slice Y nF e2)
          have hw2 : w.heap.size + 1 + 1 ≤ w1.heap.size := HLT.out
          have LX := Lib.hid (((((show LF w1.heap.size _ X CG from hLX).base hw2).set_ (b := w.heap.size) (o := 1) (v := sv (xs.take a)) (by omega)).set_ (b := w.heap.size + 1) (o := 0) (v := .slice X nG e1) (by omega)).set_ (b := w.heap.size + 1) (o := 1) (v := .slice Y nF e2) (by omega)).lr
          have LY := Lib.hid (((((show LF w1.heap.size _ Y CF from hLY).base hw2).set_ (b := w.heap.size) (o := 1) (v := sv (xs.take a)) (by omega)).set_ (b := w.heap.size + 1) (o := 0) (v := .slice X nG e1) (by omega)).set_ (b := w.heap.size + 1) (o := 1) (v := .slice Y nF e2) (by omega)).lr
          have BB := Lib.hid (bs (b := w.heap.size + 1) (o := 1) (bs (b := w.heap.size + 1) (o := 0) (bs (b := w.heap.size) (o := 1) (bt HB0.out hba) (Nat.le_refl _) (sv (xs.take a))) (by omega) (.slice X nG e1)) (by omega) (.slice Y nF e2))
          have KA := Lib.hid hK0b
          have KB := Lib.hid hK1b
          clear hK0b hK1b hLX hLY hba hK0 hK1
          refine hK9.out _ _ ?_ (fun hHeld => ?_)
          · trivial
          clear hK9 K9
          try simp only [Act.put, List.setIfInBounds_toArray, List.set_cons_zero, List.set_cons_succ]
          refine wpAnyH_ready (rs := [10]) (by kernel_rfl) (by simp) ?_
          refine AllReadyH.cons (o := ⟨none, _, _, _, _, _⟩) rfl (fun K9 hK9 => ?_) AllReadyH.nil
          go_simp
          refine hK9.out _ _ ?_ (fun hHeld => ?_)
          · trivial
          clear hK9 K9
          try simp only [Act.put]
          refine wpAnyH_ready (rs := [11]) (by kernel_rfl) (by simp) ?_
          refine AllReadyH.cons (o := ⟨none, _, _, _, _, _⟩) rfl (fun K9 hK9 => ?_) AllReadyH.nil
          go_simp
          refine hK9.out _ _ ?_ (fun hHeld => ?_)
          · trivial
          clear hK9 K9
          try simp only [Act.put]
          refine wpAnyH_done (by kernel_rfl) ?_ _
          go_wp2_with fail
          go_meet
          exact ⟨X, e1, Y, e2, KA, KB, LX, LY, BB⟩
        refine AllReadyH.cons (o := ⟨some 21, _, _, _, _, _⟩) rfl (fun K9 hK9 => ?_) AllReadyH.nil
        · skip
          go_simp; go_at_call 7
          refine (HFW.out _ HB0.out).mono ?_
          rintro e wa ⟨X, e1, Y, e2, rfl, hLX, hLY, hba⟩
          have hK0 := HK0.out.below hba
          have hK1 := HK1.out.below hba
          have d1 := pcell1 hK0
          have f1 := hK0.frozen 1
          have d2 := pcell0 hK1
          have d3 := pcell1 hK1
          have f2 := hK1.frozen 0
          have f3 := hK1.frozen 1
          have hK0b := ((hK0.set_ 1 (sv (xs.take a))).far (p := ⟨w.heap.size + 1, 0, none⟩) (by simp) (.slice X nG e1)).far (p := ⟨w.heap.size + 1, 1, none⟩) (by simp) (.slice Y nF e2)
          have hK1b := ((hK1.far (p := ⟨w.heap.size, 1, none⟩) (by simp) (sv (xs.take a))).set_ 0 (.slice X nG e1)).set_ 1 (.slice Y nF e2)
          have hw2 : w.heap.size + 1 + 1 ≤ w1.heap.size := HLT.out
          have LX := Lib.hid (((((show LF w1.heap.size _ X CG from hLX).base hw2).set_ (b := w.heap.size) (o := 1) (v := sv (xs.take a)) (by omega)).set_ (b := w.heap.size + 1) (o := 0) (v := .slice X nG e1) (by omega)).set_ (b := w.heap.size + 1) (o := 1) (v := .slice Y nF e2) (by omega)).lr
          have LY := Lib.hid (((((show LF w1.heap.size _ Y CF from hLY).base hw2).set_ (b := w.heap.size) (o := 1) (v := sv (xs.take a)) (by omega)).set_ (b := w.heap.size + 1) (o := 0) (v := .slice X nG e1) (by omega)).set_ (b := w.heap.size + 1) (o := 1) (v := .slice Y nF e2) (by omega)).lr
          have BB := Lib.hid (bs (b := w.heap.size + 1) (o := 1) (bs (b := w.heap.size + 1) (o := 0) (bs (b := w.heap.size) (o := 1) (bt HB0.out hba) (Nat.le_refl _) (sv (xs.take a))) (by omega) (.slice X nG e1)) (by omega) (.slice Y nF e2))
          have KA := Lib.hid hK0b
          have KB := Lib.hid hK1b
          clear hK0b hK1b hLX hLY hba hK0 hK1
          refine hK9.out _ _ ?_ (fun hHeld => ?_)
          · trivial
          clear hK9 K9
          try simp only [Act.put, List.setIfInBounds_toArray, List.set_cons_zero, List.set_cons_succ]
          refine wpAnyH_ready (rs := [1]) (by kernel_rfl) (by simp) ?_
          refine AllReadyH.cons (o := ⟨some 14, _, _, _, _, _⟩) rfl (fun K9 hK9 => ?_) AllReadyH.nil
          go_simp
          refine hK9.out _ _ ?_ (fun hHeld => ?_)
          · trivial
          clear hK9 K9
          try simp only [Act.put, List.setIfInBounds_toArray, List.set_cons_zero, List.set_cons_succ]
          refine wpAnyH_take (i := 6) (oi := ⟨some 19, _, _, _, _, _⟩) (v := sv (xs.take a)) rfl (by kernel_rfl) (by kernel_rfl) (by kernel_rfl) (fun _ _ _ h => h) (Or.inl ⟨by rfl, ?_⟩) (by assumption) ?_
          · (intro w9 hSw; (try dsimp only at hSw); go_simp; try with_reducible rfl)
          try simp only [Act.put, List.setIfInBounds_toArray, List.set_cons_zero, List.set_cons_succ]
          refine wpAnyH_take (i := 9) (oi := ⟨some 22, _, _, _, _, _⟩) (v := ?_) rfl (by kernel_rfl) (by kernel_rfl) (by kernel_rfl) (fun _ _ _ h => h) (Or.inl ⟨by rfl, ?_⟩) (by assumption) ?_
          rotate_left
          · (intro w9 hSw; (try dsimp only at hSw); go_simp; try with_reducible rfl)
          try simp only [Act.put, List.setIfInBounds_toArray, List.set_cons_zero, List.set_cons_succ]
          refine wpAnyH_ready (rs := [10]) (by kernel_rfl) (by simp) ?_
          refine AllReadyH.cons (o := ⟨none, _, _, _, _, _⟩) rfl (fun K9 hK9 => ?_) AllReadyH.nil
          go_simp
          refine hK9.out _ _ ?_ (fun hHeld => ?_)
          · trivial
          clear hK9 K9
          try simp only [Act.put]
          refine wpAnyH_ready (rs := [11]) (by kernel_rfl) (by simp) ?_
          refine AllReadyH.cons (o := ⟨none, _, _, _, _, _⟩) rfl (fun K9 hK9 => ?_) AllReadyH.nil
          go_simp
          refine hK9.out _ _ ?_ (fun hHeld => ?_)
          · trivial
          clear hK9 K9
          try simp only [Act.put]
          refine wpAnyH_done (by kernel_rfl) ?_ _
          go_wp2_with fail
          go_meet
          exact ⟨X, e1, Y, e2, KA, KB, LX, LY, BB⟩
    refine AllReadyH.cons (o := ⟨some 20, _, _, _, _, _⟩) rfl (fun K9 hK9 => ?_) AllReadyH.nil
    · skip
      go_simp
      refine hK9.out _ _ ?_ (fun hHeld => ?_)
      · trivial
      clear hK9 K9
      try simp only [Act.put, List.setIfInBounds_toArray, List.set_cons_zero, List.set_cons_succ]
      refine wpAnyH_ready (rs := [1, 3, 8]) (by kernel_rfl) (by simp) ?_
      refine AllReadyH.cons (o := ⟨some 14, _, _, _, _, _⟩) rfl (fun K9 hK9 => ?_) ?_
      · skip
        go_simp
        refine hK9.out _ _ ?_ (fun hHeld => ?_)
        · trivial
        clear hK9 K9
        try simp only [Act.put, List.setIfInBounds_toArray, List.set_cons_zero, List.set_cons_succ]
        refine wpAnyH_ready (rs := [3, 8]) (by kernel_rfl) (by simp) ?_
        refine AllReadyH.cons (o := ⟨some 16, _, _, _, _, _⟩) rfl (fun K9 hK9 => ?_) ?_
        · skip
          go_simp
          refine hK9.out _ _ ?_ (fun hHeld => ?_)
          · trivial
          clear hK9 K9
          try simp only [Act.put, List.setIfInBounds_toArray, List.set_cons_zero, List.set_cons_succ]
          refine wpAnyH_take (i := 4) (oi := ⟨some 17, _, _, _, _, _⟩) (v := .int .i64 (xl : Int)) rfl (by kernel_rfl) (by kernel_rfl) (by kernel_rfl) (fun _ _ _ h => h) (Or.inl ⟨by rfl, ?_⟩) (by assumption) ?_
          · (intro w9 hSw; (try dsimp only at hSw); go_simp; try with_reducible rfl)
          try simp only [Act.put, List.setIfInBounds_toArray, List.set_cons_zero, List.set_cons_succ]
          refine wpAnyH_take (i := 5) (oi := ⟨some 18, _, _, _, _, _⟩) (v := .int .i64 (a : Int)) rfl (by kernel_rfl) (by kernel_rfl) (by kernel_rfl) (fun _ _ _ h => h) (Or.inl ⟨by rfl, ?_⟩) (by assumption) ?_
          · (intro w9 hSw; (try dsimp only at hSw); go_simp; try with_reducible rfl)
          try simp only [Act.put, List.setIfInBounds_toArray, List.set_cons_zero, List.set_cons_succ]
          refine wpAnyH_take (i := 6) (oi := ⟨some 19, _, _, _, _, _⟩) (v := sv (xs.take a)) rfl (by kernel_rfl) (by kernel_rfl) (by kernel_rfl) (fun _ _ _ h => h) (Or.inl ⟨by rfl, ?_⟩) (by assumption) ?_
          · (intro w9 hSw; (try dsimp only at hSw); go_simp; try with_reducible rfl)
          try simp only [Act.put, List.setIfInBounds_toArray, List.set_cons_zero, List.set_cons_succ]
          refine wpAnyH_take (i := 9) (oi := ⟨some 22, _, _, _, _, _⟩) (v := ?_) rfl (by kernel_rfl) (by kernel_rfl) (by kernel_rfl) (fun _ _ _ h => h) (Or.inl ⟨by rfl, ?_⟩) (by assumption) ?_
          rotate_left
          · (intro w9 hSw; (try dsimp only at hSw); go_simp; try with_reducible rfl)
          try simp only [Act.put, List.setIfInBounds_toArray, List.set_cons_zero, List.set_cons_succ]
          refine wpAnyH_ready (rs := [8]) (by kernel_rfl) (by simp) ?_
          refine AllReadyH.cons (o := ⟨some 21, _, _, _, _, _⟩) rfl (fun K9 hK9 => ?_) AllReadyH.nil
          go_simp; go_at_call 7
          refine (HFW.out _ HB0.out).mono ?_
          rintro e wa ⟨X, e1, Y, e2, rfl, hLX, hLY, hba⟩
          have hK0 := HK0.out.below hba
          have hK1 := HK1.out.below hba
          have d1 := pcell1 hK0
          have f1 := hK0.frozen 1
          have d2 := pcell0 hK1
          have d3 := pcell1 hK1
          have f2 := hK1.frozen 0
          have f3 := hK1.frozen 1
          have hK0b := ((hK0.set_ 1 (sv (xs.take a))).far (p := ⟨w.heap.size + 1, 0, none⟩) (by simp) (.slice X nG e1)).far (p := ⟨w.heap.size + 1, 1, none⟩) (by simp) (.slice Y nF e2)
          have hK1b := ((hK1.far (p := ⟨w.heap.size, 1, none⟩) (by simp) (sv (xs.take a))).set_ 0 (.slice X nG e1)).set_ 1 (.slice Y nF e2)
          have hw2 : w.heap.size + 1 + 1 ≤ w1.heap.size := HLT.out
          have LX := Lib.hid (((((show LF w1.heap.size _ X CG from hLX).base hw2).set_ (b := w.heap.size) (o := 1) (v := sv (xs.take a)) (by omega)).set_ (b := w.heap.size + 1) (o := 0) (v := .slice X nG e1) (by omega)).set_ (b := w.heap.size + 1) (o := 1) (v := .slice Y nF e2) (by omega)).lr
          have LY := Lib.hid (((((show LF w1.heap.size _ Y CF from hLY).base hw2).set_ (b := w.heap.size) (o := 1) (v := sv (xs.take a)) (by omega)).set_ (b := w.heap.size + 1) (o := 0) (v := .slice X nG e1) (by omega)).set_ (b := w.heap.size + 1) (o := 1) (v := .slice Y nF e2) (by omega)).lr
          have BB := Lib.hid (bs (b := w.heap.size + 1) (o := 1) (bs (b := w.heap.size + 1) (o := 0) (bs (b := w.heap.size) (o := 1) (bt HB0.out hba) (Nat.le_refl _) (sv (xs.take a))) (by omega) (.slice X nG e1)) (by omega) (.slice Y nF e2))
          have KA := Lib.hid hK0b
          have KB := Lib.hid hK1b
          clear hK0b hK1b hLX hLY hba hK0 hK1
          refine hK9.out _ _ ?_ (fun hHeld => ?_)
          · trivial
          clear hK9 K9
          try simp only [Act.put, List.setIfInBounds_toArray, List.set_cons_zero, List.set_cons_succ]
          refine wpAnyH_ready (rs := [10]) (by kernel_rfl) (by simp) ?_
          refine AllReadyH.cons (o := ⟨none, _, _, _, _, _⟩) rfl (fun K9 hK9 => ?_) AllReadyH.nil
          go_simp
          refine hK9.out _ _ ?_ (fun hHeld => ?_)
          · trivial
          clear hK9 K9
          try simp only [Act.put]
          refine wpAnyH_ready (rs := [11]) (by kernel_rfl) (by simp) ?_
          refine AllReadyH.cons (o := ⟨none, _, _, _, _, _⟩) rfl (fun K9 hK9 => ?_) AllReadyH.nil
          go_simp
          refine hK9.out _ _ ?_ (fun hHeld => ?_)
          · trivial
          clear hK9 K9
          try simp only [Act.put]
          refine wpAnyH_done (by kernel_rfl) ?_ _
          go_wp2_with fail
          go_meet
          exact ⟨X, e1, Y, e2, KA, KB, LX, LY, BB⟩
        refine AllReadyH.cons (o := ⟨some 21, _, _, _, _, _⟩) rfl (fun K9 hK9 => ?_) AllReadyH.nil
        · skip
          go_simp; go_at_call 7
          refine (HFW.out _ HB0.out).mono ?_
          rintro e wa ⟨X, e1, Y, e2, rfl, hLX, hLY, hba⟩
          have hK0 := HK0.out.below hba
          have hK1 := HK1.out.below hba
          have d1 := pcell1 hK0
          have f1 := hK0.frozen 1
          have d2 := pcell0 hK1
          have d3 := pcell1 hK1
          have f2 := hK1.frozen 0
          have f3 := hK1.frozen 1
          have hK0b := ((hK0.set_ 1 (sv (xs.take a))).far (p := ⟨w.heap.size + 1, 0, none⟩) (by simp) (.slice X nG e1)).far (p := ⟨w.heap.size + 1, 1, none⟩) (by simp) (.slice Y nF e2)
          have hK1b := ((hK1.far (p := ⟨w.heap.size, 1, none⟩) (by simp) (sv (xs.take a))).set_ 0 (.slice X nG e1)).set_ 1 (.slice Y nF e2)
          have hw2 : w.heap.size + 1 + 1 ≤ w1.heap.size := HLT.out
          have LX := Lib.hid (((((show LF w1.heap.size _ X CG from hLX).base hw2).set_ (b := w.heap.size) (o := 1) (v := sv (xs.take a)) (by omega)).set_ (b := w.heap.size + 1) (o := 0) (v := .slice X nG e1) (by omega)).set_ (b := w.heap.size + 1) (o := 1) (v := .slice Y nF e2) (by omega)).lr
          have LY := Lib.hid (((((show LF w1.heap.size _ Y CF from hLY).base hw2).set_ (b := w.heap.size) (o := 1) (v := sv (xs.take a)) (by omega)).set_ (b := w.heap.size + 1) (o := 0) (v := .slice X nG e1) (by omega)).set_ (b := w.heap.size + 1) (o := 1) (v := .slice Y nF e2) (by omega)).lr
          have BB := Lib.hid (bs (b := w.heap.size + 1) (o := 1) (bs (b := w.heap.size + 1) (o := 0) (bs (b := w.heap.size) (o := 1) (bt HB0.out hba) (Nat.le_refl _) (sv (xs.take a))) (by omega) (.slice X nG e1)) (by omega) (.slice Y nF e2))
          have KA := Lib.hid hK0b
          have KB := Lib.hid hK1b
          clear hK0b hK1b hLX hLY hba hK0 hK1
          refine hK9.out _ _ ?_ (fun hHeld => ?_)
          · trivial
          clear hK9 K9
          try simp only [Act.put, List.setIfInBounds_toArray, List.set_cons_zero, List.set_cons_succ]
          refine wpAnyH_ready (rs := [3]) (by kernel_rfl) (by simp) ?_
          refine AllReadyH.cons (o := ⟨some 16, _, _, _, _, _⟩) rfl (fun K9 hK9 => ?_) AllReadyH.nil
          go_simp
          refine hK9.out _ _ ?_ (fun hHeld => ?_)
          · trivial
          clear hK9 K9
          try simp only [Act.put, List.setIfInBounds_toArray, List.set_cons_zero, List.set_cons_succ]
          refine wpAnyH_take (i := 4) (oi := ⟨some 17, _, _, _, _, _⟩) (v := .int .i64 (xl : Int)) rfl (by kernel_rfl) (by kernel_rfl) (by kernel_rfl) (fun _ _ _ h => h) (Or.inl ⟨by rfl, ?_⟩) (by assumption) ?_
          · (intro w9 hSw; (try dsimp only at hSw); go_simp; try with_reducible rfl)
          try simp only [Act.put, List.setIfInBounds_toArray, List.set_cons_zero, List.set_cons_succ]
          refine wpAnyH_take (i := 5) (oi := ⟨some 18, _, _, _, _, _⟩) (v := .int .i64 (a : Int)) rfl (by kernel_rfl) (by kernel_rfl) (by kernel_rfl) (fun _ _ _ h => h) (Or.inl ⟨by rfl, ?_⟩) (by assumption) ?_
          · (intro w9 hSw; (try dsimp only at hSw); go_simp; try with_reducible rfl)
          try simp only [Act.put, List.setIfInBounds_toArray, List.set_cons_zero, List.set_cons_succ]
          refine wpAnyH_take (i := 6) (oi := ⟨some 19, _, _, _, _, _⟩) (v := sv (xs.take a)) rfl (by kernel_rfl) (by kernel_rfl) (by kernel_rfl) (fun _ _ _ h => h) (Or.inl ⟨by rfl, ?_⟩) (by assumption) ?_
          · (intro w9 hSw; (try dsimp only at hSw); go_simp; try with_reducible rfl)
          try simp only [Act.put, List.setIfInBounds_toArray, List.set_cons_zero, List.set_cons_succ]
          refine wpAnyH_take (i := 9) (oi := ⟨some 22, _, _, _, _, _⟩) (v := ?_) rfl (by kernel_rfl) (by kernel_rfl) (by kernel_rfl) (fun _ _ _ h => h) (Or.inl ⟨by rfl, ?_⟩) (by assumption) ?_
          rotate_left
          · (intro w9 hSw; (try dsimp only at hSw); go_simp; try with_reducible rfl)
          try simp only [Act.put, List.setIfInBounds_toArray, List.set_cons_zero, List.set_cons_succ]
          refine wpAnyH_ready (rs := [10]) (by kernel_rfl) (by simp) ?_
          refine AllReadyH.cons (o := ⟨none, _, _, _, _, _⟩) rfl (fun K9 hK9 => ?_) AllReadyH.nil
          go_simp
          refine hK9.out _ _ ?_ (fun hHeld => ?_)
          · trivial
          clear hK9 K9
          try simp only [Act.put]
          refine wpAnyH_ready (rs := [11]) (by kernel_rfl) (by simp) ?_
          refine AllReadyH.cons (o := ⟨none, _, _, _, _, _⟩) rfl (fun K9 hK9 => ?_) AllReadyH.nil
          go_simp
          refine hK9.out _ _ ?_ (fun hHeld => ?_)
          · trivial
          clear hK9 K9
          try simp only [Act.put]
          refine wpAnyH_done (by kernel_rfl) ?_ _
          go_wp2_with fail
          go_meet
          exact ⟨X, e1, Y, e2, KA, KB, LX, LY, BB⟩
      refine AllReadyH.cons (o := ⟨some 16, _, _, _, _, _⟩) rfl (fun K9 hK9 => ?_) ?_
      · skip
        go_simp
        refine hK9.out _ _ ?_ (fun hHeld => ?_)
        · trivial
        clear hK9 K9
        try simp only [Act.put, List.setIfInBounds_toArray, List.set_cons_zero, List.set_cons_succ]
        refine wpAnyH_take (i := 4) (oi := ⟨some 17, _, _, _, _, _⟩) (v := .int .i64 (xl : Int)) rfl (by kernel_rfl) (by kernel_rfl) (by kernel_rfl) (fun _ _ _ h => h) (Or.inl ⟨by rfl, ?_⟩) (by assumption) ?_
        · (intro w9 hSw; (try dsimp only at hSw); go_simp; try with_reducible rfl)
        try simp only [Act.put, List.setIfInBounds_toArray, List.set_cons_zero, List.set_cons_succ]
        refine wpAnyH_take (i := 5) (oi := ⟨some 18, _, _, _, _, _⟩) (v := .int .i64 (a : Int)) rfl (by kernel_rfl) (by kernel_rfl) (by kernel_rfl) (fun _ _ _ h => h) (Or.inl ⟨by rfl, ?_⟩) (by assumption) ?_
        · (intro w9 hSw; (try dsimp only at hSw); go_simp; try with_reducible rfl)
        try simp only [Act.put, List.setIfInBounds_toArray, List.set_cons_zero, List.set_cons_succ]
        refine wpAnyH_ready (rs := [1, 8]) (by kernel_rfl) (by simp) ?_
        refine AllReadyH.cons (o := ⟨some 14, _, _, _, _, _⟩) rfl (fun K9 hK9 => ?_) ?_
        · skip
          go_simp
          refine hK9.out _ _ ?_ (fun hHeld => ?_)
          · trivial
          clear hK9 K9
          try simp only [Act.put, List.setIfInBounds_toArray, List.set_cons_zero, List.set_cons_succ]
          refine wpAnyH_take (i := 6) (oi := ⟨some 19, _, _, _, _, _⟩) (v := sv (xs.take a)) rfl (by kernel_rfl) (by kernel_rfl) (by kernel_rfl) (fun _ _ _ h => h) (Or.inl ⟨by rfl, ?_⟩) (by assumption) ?_
          · (intro w9 hSw; (try dsimp only at hSw); go_simp; try with_reducible rfl)
          try simp only [Act.put, List.setIfInBounds_toArray, List.set_cons_zero, List.set_cons_succ]
          refine wpAnyH_take (i := 9) (oi := ⟨some 22, _, _, _, _, _⟩) (v := ?_) rfl (by kernel_rfl) (by kernel_rfl) (by kernel_rfl) (fun _ _ _ h => h) (Or.inl ⟨by rfl, ?_⟩) (by assumption) ?_
          rotate_left
          · (intro w9 hSw; (try dsimp only at hSw); go_simp; try with_reducible rfl)
          try simp only [Act.put, List.setIfInBounds_toArray, List.set_cons_zero, List.set_cons_succ]
          refine wpAnyH_ready (rs := [8]) (by kernel_rfl) (by simp) ?_
          refine AllReadyH.cons (o := ⟨some 21, _, _, _, _, _⟩) rfl (fun K9 hK9 => ?_) AllReadyH.nil
          go_simp; go_at_call 7
          refine (HFW.out _ HB0.out).mono ?_
          rintro e wa ⟨X, e1, Y, e2, rfl, hLX, hLY, hba⟩
          have hK0 := HK0.out.below hba
          have hK1 := HK1.out.below hba
          have d1 := pcell1 hK0
          have f1 := hK0.frozen 1
          have d2 := pcell0 hK1
          have d3 := pcell1 hK1
          have f2 := hK1.frozen 0
          have f3 := hK1.frozen 1
          have hK0b := ((hK0.set_ 1 (sv (xs.take a))).far (p := ⟨w.heap.size + 1, 0, none⟩) (by simp) (.slice X nG e1)).far (p := ⟨w.heap.size + 1, 1, none⟩) (by simp) (.slice Y nF e2)
          have hK1b := ((hK1.far (p := ⟨w.heap.size, 1, none⟩) (by simp) (sv (xs.take a))).set_ 0 (.slice X nG e1)).set_ 1 (.slice Y nF e2)
          have hw2 : w.heap.size + 1 + 1 ≤ w1.heap.size := HLT.out
          have LX := Lib.hid (((((show LF w1.heap.size _ X CG from hLX).base hw2).set_ (b := w.heap.size) (o := 1) (v := sv (xs.take a)) (by omega)).set_ (b := w.heap.size + 1) (o := 0) (v := .slice X nG e1) (by omega)).set_ (b := w.heap.size + 1) (o := 1) (v := .slice Y nF e2) (by omega)).lr
          have LY := Lib.hid (((((show LF w1.heap.size _ Y CF from hLY).base hw2).set_ (b := w.heap.size) (o := 1) (v := sv (xs.take a)) (by omega)).set_ (b := w.heap.size + 1) (o := 0) (v := .slice X nG e1) (by omega)).set_ (b := w.heap.size + 1) (o := 1) (v := .slice Y nF e2) (by omega)).lr
          have BB := Lib.hid (bs (b := w.heap.size + 1) (o := 1) (bs (b := w.heap.size + 1) (o := 0) (bs (b := w.heap.size) (o := 1) (bt HB0.out hba) (Nat.le_refl _) (sv (xs.take a))) (by omega) (.slice X nG e1)) (by omega) (.slice Y nF e2))
          have KA := Lib.hid hK0b
          have KB := Lib.hid hK1b
          clear hK0b hK1b hLX hLY hba hK0 hK1
          refine hK9.out _ _ ?_ (fun hHeld => ?_)
          · trivial
          clear hK9 K9
          try simp only [Act.put, List.setIfInBounds_toArray, List.set_cons_zero, List.set_cons_succ]
          refine wpAnyH_ready (rs := [10]) (by kernel_rfl) (by simp) ?_
          refine AllReadyH.cons (o := ⟨none, _, _, _, _, _⟩) rfl (fun K9 hK9 => ?_) AllReadyH.nil
          go_simp
          refine hK9.out _ _ ?_ (fun hHeld => ?_)
          · trivial
          clear hK9 K9
          try simp only [Act.put]
          refine wpAnyH_ready (rs := [11]) (by kernel_rfl) (by simp) ?_
          refine AllReadyH.cons (o := ⟨none, _, _, _, _, _⟩) rfl (fun K9 hK9 => ?_) AllReadyH.nil
          go_simp
          refine hK9.out _ _ ?_ (fun hHeld => ?_)
          · trivial
          clear hK9 K9
          try simp only [Act.put]
          refine wpAnyH_done (by kernel_rfl) ?_ _
          go_wp2_with fail
          go_meet
          exact ⟨X, e1, Y, e2, KA, KB, LX, LY, BB⟩
        refine AllReadyH.cons (o := ⟨some 21, _, _, _, _, _⟩) rfl (fun K9 hK9 => ?_) AllReadyH.nil
        · skip
          go_simp; go_at_call 7
          refine (HFW.out _ HB0.out).mono ?_
          rintro e wa ⟨X, e1, Y, e2, rfl, hLX, hLY, hba⟩
          have hK0 := HK0.out.below hba
          have hK1 := HK1.out.below hba
          have d1 := pcell1 hK0
          have f1 := hK0.frozen 1
          have d2 := pcell0 hK1
          have d3 := pcell1 hK1
          have f2 := hK1.frozen 0
          have f3 := hK1.frozen 1
          have hK0b := ((hK0.set_ 1 (sv (xs.take a))).far (p := ⟨w.heap.size + 1, 0, none⟩) (by simp) (.slice X nG e1)).far (p := ⟨w.heap.size + 1, 1, none⟩) (by simp) (.slice Y nF e2)
          have hK1b := ((hK1.far (p := ⟨w.heap.size, 1, none⟩) (by simp) (sv (xs.take a))).set_ 0 (.slice X nG e1)).set_ 1 (.slice Y nF e2)
          have hw2 : w.heap.size + 1 + 1 ≤ w1.heap.size := HLT.out
          have LX := Lib.hid (((((show LF w1.heap.size _ X CG from hLX).base hw2).set_ (b := w.heap.size) (o := 1) (v := sv (xs.take a)) (by omega)).set_ (b := w.heap.size + 1) (o := 0) (v := .slice X nG e1) (by omega)).set_ (b := w.heap.size + 1) (o := 1) (v := .slice Y nF e2) (by omega)).lr
          have LY := Lib.hid (((((show LF w1.heap.size _ Y CF from hLY).base hw2).set_ (b := w.heap.size) (o := 1) (v := sv (xs.take a)) (by omega)).set_ (b := w.heap.size + 1) (o := 0) (v := .slice X nG e1) (by omega)).set_ (b := w.heap.size + 1) (o := 1) (v := .slice Y nF e2) (by omega)).lr
          have BB := Lib.hid (bs (b := w.heap.size + 1) (o := 1) (bs (b := w.heap.size + 1) (o := 0) (bs (b := w.heap.size) (o := 1) (bt HB0.out hba) (Nat.le_refl _) (sv (xs.take a))) (by omega) (.slice X nG e1)) (by omega) (.slice Y nF e2))
          have KA := Lib.hid hK0b
          have KB := Lib.hid hK1b
          clear hK0b hK1b hLX hLY hba hK0 hK1
          refine hK9.out _ _ ?_ (fun hHeld => ?_)
          · trivial
          clear hK9 K9
          try simp only [Act.put, List.setIfInBounds_toArray, List.set_cons_zero, List.set_cons_succ]
          refine wpAnyH_ready (rs := [1]) (by kernel_rfl) (by simp) ?_
          refine AllReadyH.cons (o := ⟨some 14, _, _, _, _, _⟩) rfl (fun K9 hK9 => ?_) AllReadyH.nil
          go_simp
          refine hK9.out _ _ ?_ (fun hHeld => ?_)
          · trivial
          clear hK9 K9
          try simp only [Act.put, List.setIfInBounds_toArray, List.set_cons_zero, List.set_cons_succ]
          refine wpAnyH_take (i := 6) (oi := ⟨some 19, _, _, _, _, _⟩) (v := sv (xs.take a)) rfl (by kernel_rfl) (by kernel_rfl) (by kernel_rfl) (fun _ _ _ h => h) (Or.inl ⟨by rfl, ?_⟩) (by assumption) ?_
          · (intro w9 hSw; (try dsimp only at hSw); go_simp; try with_reducible rfl)
          try simp only [Act.put, List.setIfInBounds_toArray, List.set_cons_zero, List.set_cons_succ]
          refine wpAnyH_take (i := 9) (oi := ⟨some 22, _, _, _, _, _⟩) (v := ?_) rfl (by kernel_rfl) (by kernel_rfl) (by kernel_rfl) (fun _ _ _ h => h) (Or.inl ⟨by rfl, ?_⟩) (by assumption) ?_
          rotate_left
          · (intro w9 hSw; (try dsimp only at hSw); go_simp; try with_reducible rfl)
          try simp only [Act.put, List.setIfInBounds_toArray, List.set_cons_zero, List.set_cons_succ]
          refine wpAnyH_ready (rs := [10]) (by kernel_rfl) (by simp) ?_
          refine AllReadyH.cons (o := ⟨none, _, _, _, _, _⟩) rfl (fun K9 hK9 => ?_) AllReadyH.nil
          go_simp
          refine hK9.out _ _ ?_ (fun hHeld => ?_)
          · trivial
          clear hK9 K9
          try simp only [Act.put]
          refine wpAnyH_ready (rs := [11]) (by kernel_rfl) (by simp) ?_
          refine AllReadyH.cons (o := ⟨none, _, _, _, _, _⟩) rfl (fun K9 hK9 => ?_) AllReadyH.nil
          go_simp
          refine hK9.out _ _ ?_ (fun hHeld => ?_)
          · trivial
          clear hK9 K9
          try simp only [Act.put]
          refine wpAnyH_done (by kernel_rfl) ?_ _
          go_wp2_with fail
          go_meet
          exact ⟨X, e1, Y, e2, KA, KB, LX, LY, BB⟩
      refine AllReadyH.cons (o := ⟨some 21, _, _, _, _, _⟩) rfl (fun K9 hK9 => ?_) AllReadyH.nil
      · skip
        go_simp; go_at_call 7
        refine (HFW.out _ HB0.out).mono ?_
        rintro e wa ⟨X, e1, Y, e2, rfl, hLX, hLY, hba⟩
        have hK0 := HK0.out.below hba
        have hK1 := HK1.out.below hba
        have d1 := pcell1 hK0
        have f1 := hK0.frozen 1
        have d2 := pcell0 hK1
        have d3 := pcell1 hK1
        have f2 := hK1.frozen 0
        have f3 := hK1.frozen 1
        have hK0b := ((hK0.set_ 1 (sv (xs.take a))).far (p := ⟨w.heap.size + 1, 0, none⟩) (by simp) (.slice X nG e1)).far (p := ⟨w.heap.size + 1, 1, none⟩) (by simp) (.slice Y nF e2)
        have hK1b := ((hK1.far (p := ⟨w.heap.size, 1, none⟩) (by simp) (sv (xs.take a))).set_ 0 (.slice X nG e1)).set_ 1 (.slice Y nF e2)
        have hw2 : w.heap.size + 1 + 1 ≤ w1.heap.size := HLT.out
        have LX := Lib.hid (((((show LF w1.heap.size _ X CG from hLX).base hw2).set_ (b := w.heap.size) (o := 1) (v := sv (xs.take a)) (by omega)).set_ (b := w.heap.size + 1) (o := 0) (v := .slice X nG e1) (by omega)).set_ (b := w.heap.size + 1) (o := 1) (v := .slice Y nF e2) (by omega)).lr
        have LY := Lib.hid (((((show LF w1.heap.size _ Y CF from hLY).base hw2).set_ (b := w.heap.size) (o := 1) (v := sv (xs.take a)) (by omega)).set_ (b := w.heap.size + 1) (o := 0) (v := .slice X nG e1) (by omega)).set_ (b := w.heap.size + 1) (o := 1) (v := .slice Y nF e2) (by omega)).lr
        have BB := Lib.hid (bs (b := w.heap.size + 1) (o := 1) (bs (b := w.heap.size + 1) (o := 0) (bs (b := w.heap.size) (o := 1) (bt HB0.out hba) (Nat.le_refl _) (sv (xs.take a))) (by omega) (.slice X nG e1)) (by omega) (.slice Y nF e2))
        have KA := Lib.hid hK0b
        have KB := Lib.hid hK1b
        clear hK0b hK1b hLX hLY hba hK0 hK1
        refine hK9.out _ _ ?_ (fun hHeld => ?_)
        · trivial
        clear hK9 K9
        try simp only [Act.put, List.setIfInBounds_toArray, List.set_cons_zero, List.set_cons_succ]
        refine wpAnyH_ready (rs := [1, 3]) (by kernel_rfl) (by simp) ?_
        refine AllReadyH.cons (o := ⟨some 14, _, _, _, _, _⟩) rfl (fun K9 hK9 => ?_) ?_
        · skip
          go_simp
          refine hK9.out _ _ ?_ (fun hHeld => ?_)
          · trivial
          clear hK9 K9
          try simp only [Act.put, List.setIfInBounds_toArray, List.set_cons_zero, List.set_cons_succ]
          refine wpAnyH_ready (rs := [3]) (by kernel_rfl) (by simp) ?_
          refine AllReadyH.cons (o := ⟨some 16, _, _, _, _, _⟩) rfl (fun K9 hK9 => ?_) AllReadyH.nil
          go_simp
          refine hK9.out _ _ ?_ (fun hHeld => ?_)
          · trivial
          clear hK9 K9
          try simp only [Act.put, List.setIfInBounds_toArray, List.set_cons_zero, List.set_cons_succ]
          refine wpAnyH_take (i := 4) (oi := ⟨some 17, _, _, _, _, _⟩) (v := .int .i64 (xl : Int)) rfl (by kernel_rfl) (by kernel_rfl) (by kernel_rfl) (fun _ _ _ h => h) (Or.inl ⟨by rfl, ?_⟩) (by assumption) ?_
          · (intro w9 hSw; (try dsimp only at hSw); go_simp; try with_reducible rfl)
          try simp only [Act.put, List.setIfInBounds_toArray, List.set_cons_zero, List.set_cons_succ]
          refine wpAnyH_take (i := 5) (oi := ⟨some 18, _, _, _, _, _⟩) (v := .int .i64 (a : Int)) rfl (by kernel_rfl) (by kernel_rfl) (by kernel_rfl) (fun _ _ _ h => h) (Or.inl ⟨by rfl, ?_⟩) (by assumption) ?_
          · (intro w9 hSw; (try dsimp only at hSw); go_simp; try with_reducible rfl)
          try simp only [Act.put, List.setIfInBounds_toArray, List.set_cons_zero, List.set_cons_succ]
          refine wpAnyH_take (i := 6) (oi := ⟨some 19, _, _, _, _, _⟩) (v := sv (xs.take a)) rfl (by kernel_rfl) (by kernel_rfl) (by kernel_rfl) (fun _ _ _ h => h) (Or.inl ⟨by rfl, ?_⟩) (by assumption) ?_
          · (intro w9 hSw; (try dsimp only at hSw); go_simp; try with_reducible rfl)
          try simp only [Act.put, List.setIfInBounds_toArray, List.set_cons_zero, List.set_cons_succ]
          refine wpAnyH_take (i := 9) (oi := ⟨some 22, _, _, _, _, _⟩) (v := ?_) rfl (by kernel_rfl) (by kernel_rfl) (by kernel_rfl) (fun _ _ _ h => h) (Or.inl ⟨by rfl, ?_⟩) (by assumption) ?_
          rotate_left
          · (intro w9 hSw; (try dsimp only at hSw); go_simp; try with_reducible rfl)
          try simp only [Act.put, List.setIfInBounds_toArray, List.set_cons_zero, List.set_cons_succ]
          refine wpAnyH_ready (rs := [10]) (by kernel_rfl) (by simp) ?_
          refine AllReadyH.cons (o := ⟨none, _, _, _, _, _⟩) rfl (fun K9 hK9 => ?_) AllReadyH.nil
          go_simp
          refine hK9.out _ _ ?_ (fun hHeld => ?_)
          · trivial
          clear hK9 K9
          try simp only [Act.put]
          refine wpAnyH_ready (rs := [11]) (by kernel_rfl) (by simp) ?_
          refine AllReadyH.cons (o := ⟨none, _, _, _, _, _⟩) rfl (fun K9 hK9 => ?_) AllReadyH.nil
          go_simp
          refine hK9.out _ _ ?_ (fun hHeld => ?_)
          · trivial
          clear hK9 K9
          try simp only [Act.put]
          refine wpAnyH_done (by kernel_rfl) ?_ _
          go_wp2_with fail
          go_meet
          exact ⟨X, e1, Y, e2, KA, KB, LX, LY, BB⟩
        refine AllReadyH.cons (o := ⟨some 16, _, _, _, _, _⟩) rfl (fun K9 hK9 => ?_) AllReadyH.nil
        · skip
          go_simp
          refine hK9.out _ _ ?_ (fun hHeld => ?_)
          · trivial
          clear hK9 K9
          try simp only [Act.put, List.setIfInBounds_toArray, List.set_cons_zero, List.set_cons_succ]
          refine wpAnyH_take (i := 4) (oi := ⟨some 17, _, _, _, _, _⟩) (v := .int .i64 (xl : Int)) rfl (by kernel_rfl) (by kernel_rfl) (by kernel_rfl) (fun _ _ _ h => h) (Or.inl ⟨by rfl, ?_⟩) (by assumption) ?_
          · (intro w9 hSw; (try dsimp only at hSw); go_simp; try with_reducible rfl)
          try simp only [Act.put, List.setIfInBounds_toArray, List.set_cons_zero, List.set_cons_succ]
          refine wpAnyH_take (i := 5) (oi := ⟨some 18, _, _, _, _, _⟩) (v := .int .i64 (a : Int)) rfl (by kernel_rfl) (by kernel_rfl) (by kernel_rfl) (fun _ _ _ h => h) (Or.inl ⟨by rfl, ?_⟩) (by assumption) ?_
          · (intro w9 hSw; (try dsimp only at hSw); go_simp; try with_reducible rfl)
          try simp only [Act.put, List.setIfInBounds_toArray, List.set_cons_zero, List.set_cons_succ]
          refine wpAnyH_ready (rs := [1]) (by kernel_rfl) (by simp) ?_
          refine AllReadyH.cons (o := ⟨some 14, _, _, _, _, _⟩) rfl (fun K9 hK9 => ?_) AllReadyH.nil
          go_simp
          refine hK9.out _ _ ?_ (fun hHeld => ?_)
          · trivial
          clear hK9 K9
          try simp only [Act.put, List.setIfInBounds_toArray, List.set_cons_zero, List.set_cons_succ]
          refine wpAnyH_take (i := 6) (oi := ⟨some 19, _, _, _, _, _⟩) (v := sv (xs.take a)) rfl (by kernel_rfl) (by kernel_rfl) (by kernel_rfl) (fun _ _ _ h => h) (Or.inl ⟨by rfl, ?_⟩) (by assumption) ?_
          · (intro w9 hSw; (try dsimp only at hSw); go_simp; try with_reducible rfl)
          try simp only [Act.put, List.setIfInBounds_toArray, List.set_cons_zero, List.set_cons_succ]
          refine wpAnyH_take (i := 9) (oi := ⟨some 22, _, _, _, _, _⟩) (v := ?_) rfl (by kernel_rfl) (by kernel_rfl) (by kernel_rfl) (fun _ _ _ h => h) (Or.inl ⟨by rfl, ?_⟩) (by assumption) ?_
          rotate_left
          · (intro w9 hSw; (try dsimp only at hSw); go_simp; try with_reducible rfl)
          try simp only [Act.put, List.setIfInBounds_toArray, List.set_cons_zero, List.set_cons_succ]
          refine wpAnyH_ready (rs := [10]) (by kernel_rfl) (by simp) ?_
          refine AllReadyH.cons (o := ⟨none, _, _, _, _, _⟩) rfl (fun K9 hK9 => ?_) AllReadyH.nil
          go_simp
          refine hK9.out _ _ ?_ (fun hHeld => ?_)
          · trivial
          clear hK9 K9
          try simp only [Act.put]
          refine wpAnyH_ready (rs := [11]) (by kernel_rfl) (by simp) ?_
          refine AllReadyH.cons (o := ⟨none, _, _, _, _, _⟩) rfl (fun K9 hK9 => ?_) AllReadyH.nil
          go_simp
          refine hK9.out _ _ ?_ (fun hHeld => ?_)
          · trivial
          clear hK9 K9
          try simp only [Act.put]
          refine wpAnyH_done (by kernel_rfl) ?_ _
          go_wp2_with fail
          go_meet
          exact ⟨X, e1, Y, e2, KA, KB, LX, LY, BB⟩
    -- end 1
  case rest =>
    clear HK0 HK1 HB0 c0 c1 c2 c3 HLT HFW hex hz j1 j2 j3
    obtain ⟨X, e1, Y, e2, HK, HP, HX, HY, HB⟩ := hcut
    generalize xs.take a = ys at *
    have q0 := pcell0 HK.out
    have q1 := pcell1 HK.out
    have q2 := pcell0 HP.out
    have q3 := pcell1 HP.out
    by_cases hok : a ≤ 64 ∧ PRt CG ∧ PRt CF
    · obtain ⟨ha64, hgr, hfr⟩ := hok
      obtain rfl : 8 = nG := by rw [← hng, hgr.1]
      obtain rfl : 8 = nF := by rw [← hnf, hfr.1]
      have TS := Lib.hid (fun W (hb : Below wc.heap.size wc W) => pSteps_yes X Y e1 e2 xk ys CG CF W (by omega) hk (HX.out.later hb) (HY.out.later hb) hgr hfr)
      have TC := Lib.hid (fun W (hb : Below wc.heap.size wc W) => pCheck_yes X Y e1 e2 xk ys r CG CF W (by omega) hk (HX.out.later hb) (HY.out.later hb) hgr hfr)
      have TW := Lib.hid (fun W (hb : Below wc.heap.size wc W) => prwhy_any X Y 8 e1 8 e2 xk ys CG CF W (HX.out.later hb) (HY.out.later hb) hng hnf (by omega) (by omega) hG6 hF6)
      rw [show pwhy ys CG CF = 0 by rw [pwhy, if_neg (by omega), if_neg (fun h => h ⟨hgr, hfr⟩)]] at TW
      have TR := Lib.hid (fun W (hb : Below wc.heap.size wc W) => prsteps_any X Y e1 e2 xk ys CG CF W (by omega) hk (HX.out.later hb) (HY.out.later hb) hgr hfr)
      have TH := Lib.hid (fun W => hrsum_any rwords_holds (psteps (xk, ys) CG CF 8) W (by have := psteps_le (x := (xk, ys)) hgr hfr (show ys.length ≤ 64 by omega) 8; omega))
      have HL : Hid ((pstepL (xk, ys) CG CF 9).length = 9 ∧ (pstepL (xk, ys) CG CF 9).getD 8 [] = psteps (xk, ys) CG CF 8) := Lib.hid ⟨pstepL_len .., pstepL_at _ _ _ (by omega)⟩
      have hyr : (hsumL (psteps (xk, ys) CG CF 8) == r) = decide (hsumL (psteps (xk, ys) CG CF 8) = r) := by by_cases h : hsumL (psteps (xk, ys) CG CF 8) = r <;> simp [h]
      clear hgr hfr HX HY hG6 hF6 hng hnf hk hal ha ha64
      generalize hsumL (psteps (xk, ys) CG CF 8) = y at *
      generalize decide (y = r) = qq at *
      generalize psteps (xk, ys) CG CF 8 = s8 at *
      generalize pstepL (xk, ys) CG CF 9 = SL at *
      go_wp2_with fail
      refine (TS.out _ (Below.refl _ _)).mono ?_
      rintro e w2 ⟨XS, cS, rfl, hS, hb2⟩
      have HS2 := Lib.hid hS
      have HD2 := Lib.hid hb2
      have q0 := pcell0 (HK.out.below hb2)
      have q1 := pcell1 (HK.out.below hb2)
      have q2 := pcell0 (HP.out.below hb2)
      have q3 := pcell1 (HP.out.below hb2)
      clear hS hb2
      go_wp2_with fail
      refine (TC.out _ HD2.out).mono ?_
      rintro e w3 ⟨rfl, hb3⟩
      have HS3 := Lib.hid (HS2.out.later hb3)
      have HD3 := Lib.hid (bt HD2.out hb3)
      have q0 := pcell0 (HK.out.below HD3.out)
      have q1 := pcell1 (HK.out.below HD3.out)
      have q2 := pcell0 (HP.out.below HD3.out)
      have q3 := pcell1 (HP.out.below HD3.out)
      clear hb3 HS2 HD2
      go_wp2_with fail
      refine (TW.out _ HD3.out).mono ?_
      rintro e w4 ⟨rfl, hb4⟩
      have HS4 := Lib.hid (HS3.out.later hb4)
      have HD4 := Lib.hid (bt HD3.out hb4)
      have q0 := pcell0 (HK.out.below HD4.out)
      have q1 := pcell1 (HK.out.below HD4.out)
      have q2 := pcell0 (HP.out.below HD4.out)
      have q3 := pcell1 (HP.out.below HD4.out)
      clear hb4 HS3 HD3
      go_wp2_with fail
      refine (TR.out _ HD4.out).mono ?_
      rintro e w5 ⟨XR, cR, rfl, hR, hb5⟩
      have HS5 := Lib.hid (HS4.out.later hb5)
      have HD5 := Lib.hid (bt HD4.out hb5)
      have HR5 := Lib.hid hR
      clear hb5 HS4 HD4 hR q0 q1 q2 q3 HK HP
      go_wp2_with fail
      refine (HAL.out _ (bt HB.out HD5.out)).mono ?_
      rintro e w6 ⟨rfl, hb6⟩
      have HS6 := Lib.hid (HS5.out.later hb6)
      have HD6 := Lib.hid (bt HD5.out hb6)
      have HR6 := Lib.hid (HR5.out.later hb6)
      clear hb6 HS5 HD5 HR5
      go_wp2_with fail
      refine (plsame XS XR cS cR 9 SL w6 HS6.out HR6.out HL.out.1 (by omega)).mono ?_
      rintro e w7 ⟨rfl, hb7⟩
      obtain ⟨gr, orr, rfl, c8⟩ := (HR6.out.later hb7) 8 (by rw [HL.out.1]; omega)
      rw [HL.out.2] at c8
      have HD7 := Lib.hid (bt HD6.out hb7)
      clear hb7 HS6 HD6 HR6
      go_wp2_with fail
      refine (TH.out w7).mono ?_
      rintro e w8 ⟨rfl, hb8⟩
      have hb9 := bt HB.out (bt HD7.out hb8)
      go_wp2
      go_ret
      exact ⟨by simp, hb9⟩
    · obtain ⟨E, hE0, hEw, hES⟩ : ∃ E : Int, E ≠ 0 ∧ pwhy ys CG CF = E ∧ ∀ W, Below wc.heap.size wc W → Calls Tryz.prog 16 #[piv xk ys, pfv X nG e1 Y nF e2] W fun e' w' => e' = .returned (.tuple #[.slice none 0 0, .int .i64 E]) ∧ Below W.heap.size W w' := by
        by_cases h64 : a ≤ 64
        · have hno : ¬ (PRt CG ∧ PRt CF) := fun h => hok ⟨h64, h⟩
          exact ⟨1, by decide, by rw [pwhy, if_neg (by omega), if_pos hno], fun W hb => pSteps_arg X Y nG e1 nF e2 xk ys CG CF W (by omega) (HX.out.later hb) (HY.out.later hb) hng hnf (by omega) (by omega) hG6 hF6 hno⟩
        · exact ⟨4, by decide, by rw [pwhy, if_pos (by omega)], fun W _ => pSteps_size xk ys _ W (by omega) (by omega) ⟨X, nG, e1, Y, nF, e2, rfl⟩⟩
      have TC := Lib.hid (fun W (hb : Below wc.heap.size wc W) => pCheck_no X Y nG e1 nF e2 xk ys ⟨r.toArray⟩ E W hE0 (fun W2 hb2 => hES W2 (bt hb hb2)))
      have TS := Lib.hid hES
      have TW := Lib.hid (fun W (hb : Below wc.heap.size wc W) => prwhy_any X Y nG e1 nF e2 xk ys CG CF W (HX.out.later hb) (HY.out.later hb) hng hnf (by omega) (by omega) hG6 hF6)
      rw [hEw] at TW
      have hE2 : (E != 0) = true := by simpa using hE0
      clear hES hEw hok HX HY hG6 hF6 hng hnf hk hal ha
      go_wp2_with fail
      refine (TS.out _ (Below.refl _ _)).mono ?_
      rintro e w2 ⟨rfl, hb2⟩
      have HD2 := Lib.hid hb2
      have q0 := pcell0 (HK.out.below hb2)
      have q1 := pcell1 (HK.out.below hb2)
      have q2 := pcell0 (HP.out.below hb2)
      have q3 := pcell1 (HP.out.below hb2)
      clear hb2
      go_wp2_with fail
      refine (TC.out _ HD2.out).mono ?_
      rintro e w3 ⟨rfl, hb3⟩
      have HD3 := Lib.hid (bt HD2.out hb3)
      have q0 := pcell0 (HK.out.below HD3.out)
      have q1 := pcell1 (HK.out.below HD3.out)
      have q2 := pcell0 (HP.out.below HD3.out)
      have q3 := pcell1 (HP.out.below HD3.out)
      clear hb3 HD2
      go_wp2_with fail
      refine (TW.out _ HD3.out).mono ?_
      rintro e w4 ⟨rfl, hb4⟩
      have HD4 := Lib.hid (bt HD3.out hb4)
      clear hb4 HD3 q0 q1 q2 q3
      go_wp2_with fail
      refine (HAL.out _ (bt HB.out HD4.out)).mono ?_
      rintro e w6 ⟨rfl, hb6⟩
      have hb9 := bt HB.out (bt HD4.out hb6)
      go_wp2
      go_ret
      exact ⟨rfl, hb9⟩
end Go.Proofs.YtjonhenllhnibaaGreatDoor
