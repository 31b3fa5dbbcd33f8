/- The walk of BitmapNew. -/
import Derived.Test.YthknelpcdoebiaaZGetC
import Derived.Deep.DeepCutAuto
import Derived.Deep.CutRange
namespace Go.Proofs.Ythknelpcdoebiaa
open Go.RowKit

set_option maxRecDepth 100000 in
set_option maxHeartbeats 8000000 in
theorem bnews_no (N1 N2 : Int) (A1 A2 : Option Addr) (n01 n1 c1 F1 n02 n2 c2 F2 : Nat) (k : Int) (R1 R2 : Bool) (w : World)
    (HF1 : Hid (∀ W, Calls Try.prog 7 #[zbv N1 A1 n01 c1 F1] W fun e w' => e = .returned (zbv N1 A1 n1 c1 F1) ∧ Below W.heap.size W w'))
    (HF2 : Hid (∀ W, Calls Try.prog 7 #[zbv N2 A2 n02 c2 F2] W fun e w' => e = .returned (zbv N2 A2 n2 c2 F2) ∧ Below W.heap.size W w'))
    (HRA : Hid (∀ W, Below w.heap.size w W → Calls Try.prog 9 #[zbv N1 A1 n1 c1 F1] W fun e w' => e = .returned (.bool R1) ∧ Below W.heap.size W w'))
    (HRB : Hid (∀ W, Below w.heap.size w W → Calls Try.prog 10 #[zbv N1 A1 n1 c1 F1] W fun e w' => e = .returned (.bool R1) ∧ Below W.heap.size W w'))
    (HLI : Hid (∀ W, Below w.heap.size w W → Calls Try.prog 11 #[zbv N1 A1 n1 c1 F1, zbv N2 A2 n2 c2 F2] W fun e w' => e = .returned (.bool R2) ∧ Below W.heap.size W w'))
    (HSA : Hid (∀ W, Below w.heap.size w W → Calls Try.prog 12 #[zbv N1 A1 n1 c1 F1, zbv N2 A2 n2 c2 F2] W fun e w' => e = .returned (.bool R2) ∧ Below W.heap.size W w'))
    (HLA : Hid (∀ W, Below w.heap.size w W → Calls Try.prog 11 #[zbv N1 A1 n1 c1 F1, zbv N1 A1 n1 c1 F1] W fun e w' => e = .returned (.bool true) ∧ Below W.heap.size W w'))
    (HAL : Hid (∀ W, Calls Try.prog 13 #[] W fun e w' => e = .returned (.bool true) ∧ Below W.heap.size W w'))
    (HNW : Hid (∀ W, Below w.heap.size w W → Calls Try.prog 8 #[.int .i64 k] W fun e w' => e = .returned (.tuple #[.agg #[.int .i64 0, .slice none 0 0, .int .u64 0], .int .i64 4]) ∧ Below W.heap.size W w'))
    (HSM : Hid (∀ W, Calls Try.prog 12 #[.agg #[.int .i64 0, .slice none 0 0, .int .u64 0], .agg #[.int .i64 0, .slice none 0 0, .int .u64 0]] W fun e w' => e = .returned (.bool true) ∧ Below W.heap.size W w'))
    (hk : k < 1 ∨ (1 ≤ k ∧ 4096 < k)) :
    Calls Try.prog 3 #[zbv N1 A1 n01 c1 F1, zbv N2 A2 n02 c2 F2, .int .i64 k] w fun e w' => e = .returned (.bool true) ∧ Below w.heap.size w w' := by
  have v0 : Blk ((w.alloc (.cells (zcs N1 A1 n01 c1 F1) 25)).alloc (.cells (zcs N2 A2 n02 c2 F2) 25)) w.heap.size 25 (zcs N1 A1 n01 c1 F1) := (Blk.new w _ _).alloc _
  have v1 : Blk ((w.alloc (.cells (zcs N1 A1 n01 c1 F1) 25)).alloc (.cells (zcs N2 A2 n02 c2 F2) 25)) (w.heap.size + 1) 25 (zcs N2 A2 n02 c2 F2) := Blk.newAt (by simp) _ _
  have hV : Below w.heap.size w ((w.alloc (.cells (zcs N1 A1 n01 c1 F1) 25)).alloc (.cells (zcs N2 A2 n02 c2 F2) 25)) := ba (ba (Below.refl _ _) _) _
  go_enter Try.func3, Try.ntmps3
  go_upto_region 1 with fail
  generalize (w.alloc (.cells (zcs N1 A1 n01 c1 F1) 25)).alloc (.cells (zcs N2 A2 n02 c2 F2) 25) = w1 at v0 v1 hV ⊢
  have K0 := Lib.hid v0.drew
  have K1 := Lib.hid v1.drew
  have HV := Lib.hid hV.drew
  clear v0 v1 hV
  go_cut [13] from 9 to 14 (fun s13 wx => s13 = undef ∧ Hid (Blk wx w.heap.size 25 (zcs N1 A1 n1 c1 F1)) ∧ Hid (Blk wx (w.heap.size + 1) 25 (zcs N2 A2 n2 c2 F2)) ∧ Hid (Below w.heap.size w wx))
  case first =>
    refine wp_region_held_drew (S := fun _ => True) (by kernel_rfl) trivial (fun hHeld => ?_)
    refine wpAnyH_ready (rs := [0, 2]) (by kernel_rfl) (by simp) ?_
    refine AllReadyH.cons (o := ⟨some 9, _, _, _, _, _⟩) rfl (fun K9 hK9 => ?_) ?_
    · skip
      obtain ⟨⟨x0, x1, x2⟩, _⟩ := zcells K0.out
      go_simp
      clear x0 x1 x2
      refine hK9.out _ _ ?_ (fun hHeld => ?_)
      · trivial
      clear hK9 K9
      try simp only [Act.put, List.setIfInBounds_toArray, List.set_cons_zero, List.set_cons_succ]
      refine wpAnyH_ready (rs := [1, 2]) (by kernel_rfl) (by simp) ?_
      refine AllReadyH.cons (o := ⟨some 10, _, _, _, _, _⟩) rfl (fun K9 hK9 => ?_) ?_
      · skip
        go_simp; go_at_call 7
        refine (HF1.out _).mono ?_
        rintro e wa ⟨rfl, hba⟩
        refine hK9.out _ _ ?_ (fun hHeld => ?_)
        · trivial
        clear hK9 K9
        try simp only [Act.put, List.setIfInBounds_toArray, List.set_cons_zero, List.set_cons_succ]
        refine wpAnyH_ready (rs := [2]) (by kernel_rfl) (by simp) ?_
        refine AllReadyH.cons (o := ⟨some 11, _, _, _, _, _⟩) rfl (fun K9 hK9 => ?_) AllReadyH.nil
        first | (have hx := zcells (K1.out.below hba); obtain ⟨⟨x0, x1, x2⟩, _⟩ := hx) | (have hx := zcells K1.out; obtain ⟨⟨x0, x1, x2⟩, _⟩ := hx)
        go_simp
        clear x0 x1 x2
        refine hK9.out _ _ ?_ (fun hHeld => ?_)
        · trivial
        clear hK9 K9
        try simp only [Act.put, List.setIfInBounds_toArray, List.set_cons_zero, List.set_cons_succ]
        refine wpAnyH_ready (rs := [3]) (by kernel_rfl) (by simp) ?_
        refine AllReadyH.cons (o := ⟨some 12, _, _, _, _, _⟩) rfl (fun K9 hK9 => ?_) AllReadyH.nil
        go_simp; go_at_call 7
        refine (HF2.out _).mono ?_
        rintro e wb ⟨rfl, hbb⟩
        refine hK9.out _ _ ?_ (fun hHeld => ?_)
        · trivial
        clear hK9 K9
        try simp only [Act.put, List.setIfInBounds_toArray, List.set_cons_zero, List.set_cons_succ]
        refine wpAnyH_ready (rs := [4]) (by kernel_rfl) (by simp) ?_
        refine AllReadyH.cons (o := ⟨none, _, _, _, _, _⟩) rfl (fun K9 hK9 => ?_) AllReadyH.nil
        have Ka := (K0.out.below hba).below hbb; have Kb := (K1.out.below hba).below hbb; have Hb := bt (bt HV.out hba) hbb; obtain ⟨⟨x0, x1, x2⟩, f0, f1, f2⟩ := zcells Ka
        go_simp
        clear f0 f1 f2 x0 x1 x2
        refine hK9.out _ _ ?_ (fun hHeld => ?_)
        · trivial
        clear hK9 K9
        try simp only [Act.put]
        refine wpAnyH_ready (rs := [5]) (by kernel_rfl) (by simp) ?_
        refine AllReadyH.cons (o := ⟨none, _, _, _, _, _⟩) rfl (fun K9 hK9 => ?_) AllReadyH.nil
        have Kc := (((Ka.set_ 0 (.int .i64 N1)).set_ 1 (.slice A1 n1 c1)).set_ 2 (zq F1)); have Kd := (((Kb.far (p := ⟨w.heap.size, 0, none⟩) (by simp) (.int .i64 N1)).far (p := ⟨w.heap.size, 1, none⟩) (by simp) (.slice A1 n1 c1)).far (p := ⟨w.heap.size, 2, none⟩) (by simp) (zq F1)); obtain ⟨⟨x0, x1, x2⟩, f0, f1, f2⟩ := zcells Kd
        go_simp
        clear f0 f1 f2 x0 x1 x2
        refine hK9.out _ _ ?_ (fun hHeld => ?_)
        · trivial
        clear hK9 K9
        try simp only [Act.put]
        refine wpAnyH_done (by kernel_rfl) ?_ _
        go_wp2_with fail
        go_meet
        exact ⟨rfl, Lib.hid ((((Kc.far (p := ⟨w.heap.size + 1, 0, none⟩) (by simp) (.int .i64 N2)).far (p := ⟨w.heap.size + 1, 1, none⟩) (by simp) (.slice A2 n2 c2)).far (p := ⟨w.heap.size + 1, 2, none⟩) (by simp) (zq F2))), Lib.hid ((((Kd.set_ 0 (.int .i64 N2)).set_ 1 (.slice A2 n2 c2)).set_ 2 (zq F2))), Lib.hid ((bs (bs (bs (bs (bs (bs Hb (b := w.heap.size) (o := 0) (by omega) (.int .i64 N1)) (b := w.heap.size) (o := 1) (by omega) (.slice A1 n1 c1)) (b := w.heap.size) (o := 2) (by omega) (zq F1)) (b := w.heap.size + 1) (o := 0) (by omega) (.int .i64 N2)) (b := w.heap.size + 1) (o := 1) (by omega) (.slice A2 n2 c2)) (b := w.heap.size + 1) (o := 2) (by omega) (zq F2)))⟩
      refine AllReadyH.cons (o := ⟨some 11, _, _, _, _, _⟩) rfl (fun K9 hK9 => ?_) AllReadyH.nil
      · skip
        first | (have hx := zcells (K1.out.below hba); obtain ⟨⟨x0, x1, x2⟩, _⟩ := hx) | (have hx := zcells K1.out; obtain ⟨⟨x0, x1, x2⟩, _⟩ := hx)
        go_simp
        clear x0 x1 x2
        refine hK9.out _ _ ?_ (fun hHeld => ?_)
        · trivial
        clear hK9 K9
        try simp only [Act.put, List.setIfInBounds_toArray, List.set_cons_zero, List.set_cons_succ]
        refine wpAnyH_ready (rs := [1]) (by kernel_rfl) (by simp) ?_
        refine AllReadyH.cons (o := ⟨some 10, _, _, _, _, _⟩) rfl (fun K9 hK9 => ?_) AllReadyH.nil
        go_simp; go_at_call 7
        refine (HF1.out _).mono ?_
        rintro e wa ⟨rfl, hba⟩
        refine hK9.out _ _ ?_ (fun hHeld => ?_)
        · trivial
        clear hK9 K9
        try simp only [Act.put, List.setIfInBounds_toArray, List.set_cons_zero, List.set_cons_succ]
        refine wpAnyH_ready (rs := [3]) (by kernel_rfl) (by simp) ?_
        refine AllReadyH.cons (o := ⟨some 12, _, _, _, _, _⟩) rfl (fun K9 hK9 => ?_) AllReadyH.nil
        go_simp; go_at_call 7
        refine (HF2.out _).mono ?_
        rintro e wb ⟨rfl, hbb⟩
        refine hK9.out _ _ ?_ (fun hHeld => ?_)
        · trivial
        clear hK9 K9
        try simp only [Act.put, List.setIfInBounds_toArray, List.set_cons_zero, List.set_cons_succ]
        refine wpAnyH_ready (rs := [4]) (by kernel_rfl) (by simp) ?_
        refine AllReadyH.cons (o := ⟨none, _, _, _, _, _⟩) rfl (fun K9 hK9 => ?_) AllReadyH.nil
        have Ka := (K0.out.below hba).below hbb; have Kb := (K1.out.below hba).below hbb; have Hb := bt (bt HV.out hba) hbb; obtain ⟨⟨x0, x1, x2⟩, f0, f1, f2⟩ := zcells Ka
        go_simp
        clear f0 f1 f2 x0 x1 x2
        refine hK9.out _ _ ?_ (fun hHeld => ?_)
        · trivial
        clear hK9 K9
        try simp only [Act.put]
        refine wpAnyH_ready (rs := [5]) (by kernel_rfl) (by simp) ?_
        refine AllReadyH.cons (o := ⟨none, _, _, _, _, _⟩) rfl (fun K9 hK9 => ?_) AllReadyH.nil
        have Kc := (((Ka.set_ 0 (.int .i64 N1)).set_ 1 (.slice A1 n1 c1)).set_ 2 (zq F1)); have Kd := (((Kb.far (p := ⟨w.heap.size, 0, none⟩) (by simp) (.int .i64 N1)).far (p := ⟨w.heap.size, 1, none⟩) (by simp) (.slice A1 n1 c1)).far (p := ⟨w.heap.size, 2, none⟩) (by simp) (zq F1)); obtain ⟨⟨x0, x1, x2⟩, f0, f1, f2⟩ := zcells Kd
        go_simp
        clear f0 f1 f2 x0 x1 x2
        refine hK9.out _ _ ?_ (fun hHeld => ?_)
        · trivial
        clear hK9 K9
        try simp only [Act.put]
        refine wpAnyH_done (by kernel_rfl) ?_ _
        go_wp2_with fail
        go_meet
        exact ⟨rfl, Lib.hid ((((Kc.far (p := ⟨w.heap.size + 1, 0, none⟩) (by simp) (.int .i64 N2)).far (p := ⟨w.heap.size + 1, 1, none⟩) (by simp) (.slice A2 n2 c2)).far (p := ⟨w.heap.size + 1, 2, none⟩) (by simp) (zq F2))), Lib.hid ((((Kd.set_ 0 (.int .i64 N2)).set_ 1 (.slice A2 n2 c2)).set_ 2 (zq F2))), Lib.hid ((bs (bs (bs (bs (bs (bs Hb (b := w.heap.size) (o := 0) (by omega) (.int .i64 N1)) (b := w.heap.size) (o := 1) (by omega) (.slice A1 n1 c1)) (b := w.heap.size) (o := 2) (by omega) (zq F1)) (b := w.heap.size + 1) (o := 0) (by omega) (.int .i64 N2)) (b := w.heap.size + 1) (o := 1) (by omega) (.slice A2 n2 c2)) (b := w.heap.size + 1) (o := 2) (by omega) (zq F2)))⟩
    refine AllReadyH.cons (o := ⟨some 11, _, _, _, _, _⟩) rfl (fun K9 hK9 => ?_) AllReadyH.nil
    · skip
      first | (have hx := zcells (K1.out.below hba); obtain ⟨⟨x0, x1, x2⟩, _⟩ := hx) | (have hx := zcells K1.out; obtain ⟨⟨x0, x1, x2⟩, _⟩ := hx)
      go_simp
      clear x0 x1 x2
      refine hK9.out _ _ ?_ (fun hHeld => ?_)
      · trivial
      clear hK9 K9
      try simp only [Act.put, List.setIfInBounds_toArray, List.set_cons_zero, List.set_cons_succ]
      refine wpAnyH_ready (rs := [0]) (by kernel_rfl) (by simp) ?_
      refine AllReadyH.cons (o := ⟨some 9, _, _, _, _, _⟩) rfl (fun K9 hK9 => ?_) AllReadyH.nil
      obtain ⟨⟨x0, x1, x2⟩, _⟩ := zcells K0.out
      go_simp
      clear x0 x1 x2
      refine hK9.out _ _ ?_ (fun hHeld => ?_)
      · trivial
      clear hK9 K9
      try simp only [Act.put, List.setIfInBounds_toArray, List.set_cons_zero, List.set_cons_succ]
      refine wpAnyH_ready (rs := [1]) (by kernel_rfl) (by simp) ?_
      refine AllReadyH.cons (o := ⟨some 10, _, _, _, _, _⟩) rfl (fun K9 hK9 => ?_) AllReadyH.nil
      go_simp; go_at_call 7
      refine (HF1.out _).mono ?_
      rintro e wa ⟨rfl, hba⟩
      refine hK9.out _ _ ?_ (fun hHeld => ?_)
      · trivial
      clear hK9 K9
      try simp only [Act.put, List.setIfInBounds_toArray, List.set_cons_zero, List.set_cons_succ]
      refine wpAnyH_ready (rs := [3]) (by kernel_rfl) (by simp) ?_
      refine AllReadyH.cons (o := ⟨some 12, _, _, _, _, _⟩) rfl (fun K9 hK9 => ?_) AllReadyH.nil
      go_simp; go_at_call 7
      refine (HF2.out _).mono ?_
      rintro e wb ⟨rfl, hbb⟩
      refine hK9.out _ _ ?_ (fun hHeld => ?_)
      · trivial
      clear hK9 K9
      try simp only [Act.put, List.setIfInBounds_toArray, List.set_cons_zero, List.set_cons_succ]
      refine wpAnyH_ready (rs := [4]) (by kernel_rfl) (by simp) ?_
      refine AllReadyH.cons (o := ⟨none, _, _, _, _, _⟩) rfl (fun K9 hK9 => ?_) AllReadyH.nil
      have Ka := (K0.out.below hba).below hbb; have Kb := (K1.out.below hba).below hbb; have Hb := bt (bt HV.out hba) hbb; obtain ⟨⟨x0, x1, x2⟩, f0, f1, f2⟩ := zcells Ka
      go_simp
      clear f0 f1 f2 x0 x1 x2
      refine hK9.out _ _ ?_ (fun hHeld => ?_)
      · trivial
      clear hK9 K9
      try simp only [Act.put]
      refine wpAnyH_ready (rs := [5]) (by kernel_rfl) (by simp) ?_
      refine AllReadyH.cons (o := ⟨none, _, _, _, _, _⟩) rfl (fun K9 hK9 => ?_) AllReadyH.nil
      have Kc := (((Ka.set_ 0 (.int .i64 N1)).set_ 1 (.slice A1 n1 c1)).set_ 2 (zq F1)); have Kd := (((Kb.far (p := ⟨w.heap.size, 0, none⟩) (by simp) (.int .i64 N1)).far (p := ⟨w.heap.size, 1, none⟩) (by simp) (.slice A1 n1 c1)).far (p := ⟨w.heap.size, 2, none⟩) (by simp) (zq F1)); obtain ⟨⟨x0, x1, x2⟩, f0, f1, f2⟩ := zcells Kd
      go_simp
      clear f0 f1 f2 x0 x1 x2
      refine hK9.out _ _ ?_ (fun hHeld => ?_)
      · trivial
      clear hK9 K9
      try simp only [Act.put]
      refine wpAnyH_done (by kernel_rfl) ?_ _
      go_wp2_with fail
      go_meet
      exact ⟨rfl, Lib.hid ((((Kc.far (p := ⟨w.heap.size + 1, 0, none⟩) (by simp) (.int .i64 N2)).far (p := ⟨w.heap.size + 1, 1, none⟩) (by simp) (.slice A2 n2 c2)).far (p := ⟨w.heap.size + 1, 2, none⟩) (by simp) (zq F2))), Lib.hid ((((Kd.set_ 0 (.int .i64 N2)).set_ 1 (.slice A2 n2 c2)).set_ 2 (zq F2))), Lib.hid ((bs (bs (bs (bs (bs (bs Hb (b := w.heap.size) (o := 0) (by omega) (.int .i64 N1)) (b := w.heap.size) (o := 1) (by omega) (.slice A1 n1 c1)) (b := w.heap.size) (o := 2) (by omega) (zq F1)) (b := w.heap.size + 1) (o := 0) (by omega) (.int .i64 N2)) (b := w.heap.size + 1) (o := 1) (by omega) (.slice A2 n2 c2)) (b := w.heap.size + 1) (o := 2) (by omega) (zq F2)))⟩
  case rest =>
    obtain ⟨rfl, L0, L1, HW⟩ := hcut
    clear K0 K1 HV HF1 HF2
    go_wp2_with fail
    refine (HNW.out _ HW.out).mono ?_
    rintro e w3 ⟨rfl, hb3⟩
    have N0 := Lib.hid (L0.out.below hb3)
    have N1 := Lib.hid (L1.out.below hb3)
    have HB3 := Lib.hid (bt HW.out hb3)
    clear L0 L1 HW
    have M2 := Lib.hid (Blk.new w3 25 #[.int .i64 0, .slice none 0 0, .int .u64 0])
    have M0 := Lib.hid (N0.out.alloc (.cells #[.int .i64 0, .slice none 0 0, .int .u64 0] 25))
    have M1 := Lib.hid (N1.out.alloc (.cells #[.int .i64 0, .slice none 0 0, .int .u64 0] 25))
    have HB4 := Lib.hid (ba HB3.out (.cells #[.int .i64 0, .slice none 0 0, .int .u64 0] 25))
    clear N0 N1 hb3
    go_upto_region 3 with fail
    generalize w3.alloc (.cells #[.int .i64 0, .slice none 0 0, .int .u64 0] 25) = w4 at M0 M1 M2 HB4 ⊢
    refine wp_region_held_drew (S := fun W => Below w4.heap.size w4 W) (by kernel_rfl) (Below.refl _ _).drew (fun hHeld => ?_)
    refine wpAnyH_take (i := 0) (oi := ⟨some 18, _, _, _, _, _⟩) (v := zbv N1 A1 n1 c1 F1) rfl (by kernel_rfl) (by kernel_rfl) (by kernel_rfl) (fun _ _ _ h => h) (Or.inl ⟨by rfl, ?_⟩) (by assumption) ?_
    · (intro w9 hSw; obtain ⟨⟨x0, x1, x2⟩, _⟩ := zcells (M0.out.below hSw); (try dsimp only at hSw); go_simp)
    try simp only [Act.put, List.setIfInBounds_toArray, List.set_cons_zero, List.set_cons_succ]
    refine wpAnyH_take (i := 2) (oi := ⟨some 20, _, _, _, _, _⟩) (v := zbv N1 A1 n1 c1 F1) rfl (by kernel_rfl) (by kernel_rfl) (by kernel_rfl) (fun _ _ _ h => h) (Or.inl ⟨by rfl, ?_⟩) (by assumption) ?_
    · (intro w9 hSw; obtain ⟨⟨x0, x1, x2⟩, _⟩ := zcells (M0.out.below hSw); (try dsimp only at hSw); go_simp)
    try simp only [Act.put, List.setIfInBounds_toArray, List.set_cons_zero, List.set_cons_succ]
    refine wpAnyH_ready (rs := [1]) (by kernel_rfl) (by simp) ?_
    refine AllReadyH.cons (o := ⟨some 19, _, _, _, _, _⟩) rfl (fun K9 hK9 => ?_) AllReadyH.nil
    have hcur : Below w4.heap.size w4 _ := hHeld
    go_simp; go_at_call 9
    refine (HRA.out _ (bt HB4.out hcur)).mono ?_
    rintro e wa ⟨rfl, hba⟩
    refine hK9.out _ _ ?_ (fun hHeld => ?_)
    · first | exact bt hcur hba | exact (bt hcur hba).drew
    clear hK9 K9
    try simp only [Act.put, List.setIfInBounds_toArray, List.set_cons_zero, List.set_cons_succ]
    refine wpAnyH_ready (rs := [3]) (by kernel_rfl) (by simp) ?_
    refine AllReadyH.cons (o := ⟨some 21, _, _, _, _, _⟩) rfl (fun K9 hK9 => ?_) AllReadyH.nil
    have hcur : Below w4.heap.size w4 _ := hHeld
    go_simp; go_at_call 10
    refine (HRB.out _ (bt HB4.out hcur)).mono ?_
    rintro e wb ⟨rfl, hbb⟩
    refine hK9.out _ _ ?_ (fun hHeld => ?_)
    · first | exact bt hcur hbb | exact (bt hcur hbb).drew
    clear hK9 K9
    try simp only [Act.put, List.setIfInBounds_toArray, List.set_cons_zero, List.set_cons_succ]
    refine wpAnyH_take (i := 4) (oi := ⟨some 22, _, _, _, _, _⟩) (v := .bool false) rfl (by kernel_rfl) (by kernel_rfl) (by kernel_rfl) (fun _ _ _ h => h) (Or.inl ⟨by rfl, ?_⟩) (by assumption) ?_
    · (intro w9 hSw; (try dsimp only at hSw); go_simp)
    try simp only [Act.put, List.setIfInBounds_toArray, List.set_cons_zero, List.set_cons_succ]
    refine wpAnyH_take (i := 5) (oi := ⟨some 23, _, _, _, _, _⟩) (v := .bool false) rfl (by kernel_rfl) (by kernel_rfl) (by kernel_rfl) (fun _ _ _ h => h) (Or.inl ⟨by rfl, ?_⟩) (by assumption) ?_
    · (intro w9 hSw; (try dsimp only at hSw); go_simp)
    try simp only [Act.put, List.setIfInBounds_toArray, List.set_cons_zero, List.set_cons_succ]
    refine wpAnyH_take (i := 6) (oi := ⟨some 24, _, _, _, _, _⟩) (v := zbv N1 A1 n1 c1 F1) rfl (by kernel_rfl) (by kernel_rfl) (by kernel_rfl) (fun _ _ _ h => h) (Or.inl ⟨by rfl, ?_⟩) (by assumption) ?_
    · (intro w9 hSw; obtain ⟨⟨x0, x1, x2⟩, _⟩ := zcells (M0.out.below hSw); (try dsimp only at hSw); go_simp)
    try simp only [Act.put, List.setIfInBounds_toArray, List.set_cons_zero, List.set_cons_succ]
    refine wpAnyH_take (i := 7) (oi := ⟨some 25, _, _, _, _, _⟩) (v := zbv N2 A2 n2 c2 F2) rfl (by kernel_rfl) (by kernel_rfl) (by kernel_rfl) (fun _ _ _ h => h) (Or.inl ⟨by rfl, ?_⟩) (by assumption) ?_
    · (intro w9 hSw; obtain ⟨⟨x0, x1, x2⟩, _⟩ := zcells (M1.out.below hSw); (try dsimp only at hSw); go_simp)
    try simp only [Act.put, List.setIfInBounds_toArray, List.set_cons_zero, List.set_cons_succ]
    refine wpAnyH_take (i := 9) (oi := ⟨some 27, _, _, _, _, _⟩) (v := zbv N1 A1 n1 c1 F1) rfl (by kernel_rfl) (by kernel_rfl) (by kernel_rfl) (fun _ _ _ h => h) (Or.inl ⟨by rfl, ?_⟩) (by assumption) ?_
    · (intro w9 hSw; obtain ⟨⟨x0, x1, x2⟩, _⟩ := zcells (M0.out.below hSw); (try dsimp only at hSw); go_simp)
    try simp only [Act.put, List.setIfInBounds_toArray, List.set_cons_zero, List.set_cons_succ]
    refine wpAnyH_take (i := 10) (oi := ⟨some 28, _, _, _, _, _⟩) (v := zbv N2 A2 n2 c2 F2) rfl (by kernel_rfl) (by kernel_rfl) (by kernel_rfl) (fun _ _ _ h => h) (Or.inl ⟨by rfl, ?_⟩) (by assumption) ?_
    · (intro w9 hSw; obtain ⟨⟨x0, x1, x2⟩, _⟩ := zcells (M1.out.below hSw); (try dsimp only at hSw); go_simp)
    try simp only [Act.put, List.setIfInBounds_toArray, List.set_cons_zero, List.set_cons_succ]
    refine wpAnyH_ready (rs := [8]) (by kernel_rfl) (by simp) ?_
    refine AllReadyH.cons (o := ⟨some 26, _, _, _, _, _⟩) rfl (fun K9 hK9 => ?_) AllReadyH.nil
    have hcur : Below w4.heap.size w4 _ := hHeld
    go_simp; go_at_call 11
    refine (HLI.out _ (bt HB4.out hcur)).mono ?_
    rintro e wc ⟨rfl, hbc⟩
    refine hK9.out _ _ ?_ (fun hHeld => ?_)
    · first | exact bt hcur hbc | exact (bt hcur hbc).drew
    clear hK9 K9
    try simp only [Act.put, List.setIfInBounds_toArray, List.set_cons_zero, List.set_cons_succ]
    refine wpAnyH_ready (rs := [11]) (by kernel_rfl) (by simp) ?_
    refine AllReadyH.cons (o := ⟨some 29, _, _, _, _, _⟩) rfl (fun K9 hK9 => ?_) AllReadyH.nil
    have hcur : Below w4.heap.size w4 _ := hHeld
    go_simp; go_at_call 12
    refine (HSA.out _ (bt HB4.out hcur)).mono ?_
    rintro e wd ⟨rfl, hbd⟩
    refine hK9.out _ _ ?_ (fun hHeld => ?_)
    · first | exact bt hcur hbd | exact (bt hcur hbd).drew
    clear hK9 K9
    try simp only [Act.put, List.setIfInBounds_toArray, List.set_cons_zero, List.set_cons_succ]
    refine wpAnyH_take (i := 12) (oi := ⟨some 30, _, _, _, _, _⟩) (v := .bool false) rfl (by kernel_rfl) (by kernel_rfl) (by kernel_rfl) (fun _ _ _ h => h) (Or.inl ⟨by rfl, ?_⟩) (by assumption) ?_
    · (intro w9 hSw; (try dsimp only at hSw); go_simp)
    try simp only [Act.put, List.setIfInBounds_toArray, List.set_cons_zero, List.set_cons_succ]
    refine wpAnyH_take (i := 13) (oi := ⟨some 31, _, _, _, _, _⟩) (v := .bool false) rfl (by kernel_rfl) (by kernel_rfl) (by kernel_rfl) (fun _ _ _ h => h) (Or.inl ⟨by rfl, ?_⟩) (by assumption) ?_
    · (intro w9 hSw; (try dsimp only at hSw); go_simp)
    try simp only [Act.put, List.setIfInBounds_toArray, List.set_cons_zero, List.set_cons_succ]
    refine wpAnyH_take (i := 14) (oi := ⟨some 32, _, _, _, _, _⟩) (v := .bool false) rfl (by kernel_rfl) (by kernel_rfl) (by kernel_rfl) (fun _ _ _ h => h) (Or.inl ⟨by rfl, ?_⟩) (by assumption) ?_
    · (intro w9 hSw; (try dsimp only at hSw); go_simp)
    try simp only [Act.put, List.setIfInBounds_toArray, List.set_cons_zero, List.set_cons_succ]
    refine wpAnyH_take (i := 15) (oi := ⟨some 33, _, _, _, _, _⟩) (v := zbv N1 A1 n1 c1 F1) rfl (by kernel_rfl) (by kernel_rfl) (by kernel_rfl) (fun _ _ _ h => h) (Or.inl ⟨by rfl, ?_⟩) (by assumption) ?_
    · (intro w9 hSw; obtain ⟨⟨x0, x1, x2⟩, _⟩ := zcells (M0.out.below hSw); (try dsimp only at hSw); go_simp)
    try simp only [Act.put, List.setIfInBounds_toArray, List.set_cons_zero, List.set_cons_succ]
    refine wpAnyH_take (i := 16) (oi := ⟨some 34, _, _, _, _, _⟩) (v := zbv N1 A1 n1 c1 F1) rfl (by kernel_rfl) (by kernel_rfl) (by kernel_rfl) (fun _ _ _ h => h) (Or.inl ⟨by rfl, ?_⟩) (by assumption) ?_
    · (intro w9 hSw; obtain ⟨⟨x0, x1, x2⟩, _⟩ := zcells (M0.out.below hSw); (try dsimp only at hSw); go_simp)
    try simp only [Act.put, List.setIfInBounds_toArray, List.set_cons_zero, List.set_cons_succ]
    refine wpAnyH_ready (rs := [17]) (by kernel_rfl) (by simp) ?_
    refine AllReadyH.cons (o := ⟨some 35, _, _, _, _, _⟩) rfl (fun K9 hK9 => ?_) AllReadyH.nil
    have hcur : Below w4.heap.size w4 _ := hHeld
    go_simp; go_at_call 11
    refine (HLA.out _ (bt HB4.out hcur)).mono ?_
    rintro e we ⟨rfl, hbe⟩
    refine hK9.out _ _ ?_ (fun hHeld => ?_)
    · first | exact bt hcur hbe | exact (bt hcur hbe).drew
    clear hK9 K9
    try simp only [Act.put, List.setIfInBounds_toArray, List.set_cons_zero, List.set_cons_succ]
    refine wpAnyH_take (i := 18) (oi := ⟨some 36, _, _, _, _, _⟩) (v := .bool false) rfl (by kernel_rfl) (by kernel_rfl) (by kernel_rfl) (fun _ _ _ h => h) (Or.inl ⟨by rfl, ?_⟩) (by assumption) ?_
    · (intro w9 hSw; (try dsimp only at hSw); go_simp)
    try simp only [Act.put, List.setIfInBounds_toArray, List.set_cons_zero, List.set_cons_succ]
    refine wpAnyH_take (i := 19) (oi := ⟨some 37, _, _, _, _, _⟩) (v := .bool false) rfl (by kernel_rfl) (by kernel_rfl) (by kernel_rfl) (fun _ _ _ h => h) (Or.inl ⟨by rfl, ?_⟩) (by assumption) ?_
    · (intro w9 hSw; (try dsimp only at hSw); go_simp)
    try simp only [Act.put, List.setIfInBounds_toArray, List.set_cons_zero, List.set_cons_succ]
    refine wpAnyH_take (i := 20) (oi := ⟨some 38, _, _, _, _, _⟩) (v := .bool false) rfl (by kernel_rfl) (by kernel_rfl) (by kernel_rfl) (fun _ _ _ h => h) (Or.inl ⟨by rfl, ?_⟩) (by assumption) ?_
    · (intro w9 hSw; (try dsimp only at hSw); go_simp)
    try simp only [Act.put, List.setIfInBounds_toArray, List.set_cons_zero, List.set_cons_succ]
    refine wpAnyH_ready (rs := [21]) (by kernel_rfl) (by simp) ?_
    refine AllReadyH.cons (o := ⟨some 39, _, _, _, _, _⟩) rfl (fun K9 hK9 => ?_) AllReadyH.nil
    have hcur : Below w4.heap.size w4 _ := hHeld
    go_simp; go_at_call 13
    refine (HAL.out _).mono ?_
    rintro e wf ⟨rfl, hbf⟩
    refine hK9.out _ _ ?_ (fun hHeld => ?_)
    · first | exact bt hcur hbf | exact (bt hcur hbf).drew
    clear hK9 K9
    try simp only [Act.put, List.setIfInBounds_toArray, List.set_cons_zero, List.set_cons_succ]
    refine wpAnyH_take (i := 22) (oi := ⟨some 40, _, _, _, _, _⟩) (v := .bool false) rfl (by kernel_rfl) (by kernel_rfl) (by kernel_rfl) (fun _ _ _ h => h) (Or.inl ⟨by rfl, ?_⟩) (by assumption) ?_
    · (intro w9 hSw; (try dsimp only at hSw); go_simp)
    try simp only [Act.put, List.setIfInBounds_toArray, List.set_cons_zero, List.set_cons_succ]
    refine wpAnyH_take (i := 23) (oi := ⟨some 41, _, _, _, _, _⟩) (v := .bool false) rfl (by kernel_rfl) (by kernel_rfl) (by kernel_rfl) (fun _ _ _ h => h) (Or.inl ⟨by rfl, ?_⟩) (by assumption) ?_
    · (intro w9 hSw; (try dsimp only at hSw); go_simp)
    try simp only [Act.put, List.setIfInBounds_toArray, List.set_cons_zero, List.set_cons_succ]
    refine wpAnyH_done (by kernel_rfl) ?_ _
    have hfin : Below w4.heap.size w4 _ := hHeld
    have HB5 := Lib.hid (bt HB4.out hfin)
    have M3 := Lib.hid (M2.out.below hfin)
    have HF4 := Lib.hid hfin
    obtain ⟨⟨x0, x1, x2⟩, _⟩ := zcells M3.out
    clear hfin hHeld HRA HRB HLI HSA HLA HAL M0 M1
    rcases hk with hk1 | ⟨hk1, hk2⟩
    all_goals
      go_wp2_with fail
      refine (HSM.out _).mono ?_
      rintro e w9 ⟨rfl, hb9⟩
      go_wp2_with fail
      go_ret
      exact ⟨rfl, bt HB5.out hb9⟩

set_option maxRecDepth 100000 in
set_option maxHeartbeats 8000000 in
theorem bnews_yes (N1 N2 : Int) (A1 A2 : Option Addr) (n01 n1 c1 F1 n02 n2 c2 F2 : Nat) (q m : Nat) (T : List Nat) (R1 R2 : Bool) (w : World)
    (HF1 : Hid (∀ W, Calls Try.prog 7 #[zbv N1 A1 n01 c1 F1] W fun e w' => e = .returned (zbv N1 A1 n1 c1 F1) ∧ Below W.heap.size W w'))
    (HF2 : Hid (∀ W, Calls Try.prog 7 #[zbv N2 A2 n02 c2 F2] W fun e w' => e = .returned (zbv N2 A2 n2 c2 F2) ∧ Below W.heap.size W w'))
    (HRA : Hid (∀ W, Below w.heap.size w W → Calls Try.prog 9 #[zbv N1 A1 n1 c1 F1] W fun e w' => e = .returned (.bool R1) ∧ Below W.heap.size W w'))
    (HRB : Hid (∀ W, Below w.heap.size w W → Calls Try.prog 10 #[zbv N1 A1 n1 c1 F1] W fun e w' => e = .returned (.bool R1) ∧ Below W.heap.size W w'))
    (HLI : Hid (∀ W, Below w.heap.size w W → Calls Try.prog 11 #[zbv N1 A1 n1 c1 F1, zbv N2 A2 n2 c2 F2] W fun e w' => e = .returned (.bool R2) ∧ Below W.heap.size W w'))
    (HSA : Hid (∀ W, Below w.heap.size w W → Calls Try.prog 12 #[zbv N1 A1 n1 c1 F1, zbv N2 A2 n2 c2 F2] W fun e w' => e = .returned (.bool R2) ∧ Below W.heap.size W w'))
    (HLA : Hid (∀ W, Below w.heap.size w W → Calls Try.prog 11 #[zbv N1 A1 n1 c1 F1, zbv N1 A1 n1 c1 F1] W fun e w' => e = .returned (.bool true) ∧ Below W.heap.size W w'))
    (HAL : Hid (∀ W, Calls Try.prog 13 #[] W fun e w' => e = .returned (.bool true) ∧ Below W.heap.size W w'))
    (HNW : Hid (∀ W, Calls Try.prog 8 #[.int .i64 (q : Int)] W fun e w' => ∃ A, e = .returned (.tuple #[zbv (q : Int) A m m 0, .int .i64 0]) ∧ ZM w' A m m T 0 ∧ Below W.heap.size W w'))
    (HRN : Hid (∀ W, Calls Try.prog 14 #[.int .i64 (q : Int)] W fun e w' => ∃ A' c', e = .returned (zbv (q : Int) A' m c' 0) ∧ ZM w' A' m c' T 0 ∧ Below W.heap.size W w'))
    (HSM : Hid (∀ W A1 c1 A2 c2, ZM W A1 m c1 T 0 → ZM W A2 m c2 T 0 → Calls Try.prog 12 #[zbv (q : Int) A1 m c1 0, zbv (q : Int) A2 m c2 0] W fun e w' => e = .returned (.bool true) ∧ Below W.heap.size W w'))
    (HRT : Hid (∀ W A, ZM W A m m T 0 → Calls Try.prog 9 #[zbv (q : Int) A m m 0] W fun e w' => e = .returned (.bool true) ∧ Below W.heap.size W w'))
    (hk1 : 1 ≤ q) (hk2 : q ≤ 4096) :
    Calls Try.prog 3 #[zbv N1 A1 n01 c1 F1, zbv N2 A2 n02 c2 F2, .int .i64 (q : Int)] w fun e w' => e = .returned (.bool true) ∧ Below w.heap.size w w' := by
  have v0 : Blk ((w.alloc (.cells (zcs N1 A1 n01 c1 F1) 25)).alloc (.cells (zcs N2 A2 n02 c2 F2) 25)) w.heap.size 25 (zcs N1 A1 n01 c1 F1) := (Blk.new w _ _).alloc _
  have v1 : Blk ((w.alloc (.cells (zcs N1 A1 n01 c1 F1) 25)).alloc (.cells (zcs N2 A2 n02 c2 F2) 25)) (w.heap.size + 1) 25 (zcs N2 A2 n02 c2 F2) := Blk.newAt (by simp) _ _
  have hV : Below w.heap.size w ((w.alloc (.cells (zcs N1 A1 n01 c1 F1) 25)).alloc (.cells (zcs N2 A2 n02 c2 F2) 25)) := ba (ba (Below.refl _ _) _) _
  have i1 : ¬ (q : Int) < 1 := by omega
  have i2 : (q : Int) ≤ 4096 := by omega
  go_enter Try.func3, Try.ntmps3
  go_upto_region 1 with fail
  generalize (w.alloc (.cells (zcs N1 A1 n01 c1 F1) 25)).alloc (.cells (zcs N2 A2 n02 c2 F2) 25) = w1 at v0 v1 hV ⊢
  have K0 := Lib.hid v0.drew
  have K1 := Lib.hid v1.drew
  have HV := Lib.hid hV.drew
  clear v0 v1 hV
  go_cut [13] from 9 to 14 (fun s13 wx => s13 = undef ∧ Hid (Blk wx w.heap.size 25 (zcs N1 A1 n1 c1 F1)) ∧ Hid (Blk wx (w.heap.size + 1) 25 (zcs N2 A2 n2 c2 F2)) ∧ Hid (Below w.heap.size w wx))
  case first =>
    refine wp_region_held_drew (S := fun _ => True) (by kernel_rfl) trivial (fun hHeld => ?_)
    refine wpAnyH_ready (rs := [0, 2]) (by kernel_rfl) (by simp) ?_
    refine AllReadyH.cons (o := ⟨some 9, _, _, _, _, _⟩) rfl (fun K9 hK9 => ?_) ?_
    · skip
      obtain ⟨⟨x0, x1, x2⟩, _⟩ := zcells K0.out
      go_simp
      clear x0 x1 x2
      refine hK9.out _ _ ?_ (fun hHeld => ?_)
      · trivial
      clear hK9 K9
      try simp only [Act.put, List.setIfInBounds_toArray, List.set_cons_zero, List.set_cons_succ]
      refine wpAnyH_ready (rs := [1, 2]) (by kernel_rfl) (by simp) ?_
      refine AllReadyH.cons (o := ⟨some 10, _, _, _, _, _⟩) rfl (fun K9 hK9 => ?_) ?_
      · skip
        go_simp; go_at_call 7
        refine (HF1.out _).mono ?_
        rintro e wa ⟨rfl, hba⟩
        refine hK9.out _ _ ?_ (fun hHeld => ?_)
        · trivial
        clear hK9 K9
        try simp only [Act.put, List.setIfInBounds_toArray, List.set_cons_zero, List.set_cons_succ]
        refine wpAnyH_ready (rs := [2]) (by kernel_rfl) (by simp) ?_
        refine AllReadyH.cons (o := ⟨some 11, _, _, _, _, _⟩) rfl (fun K9 hK9 => ?_) AllReadyH.nil
        first | (have hx := zcells (K1.out.below hba); obtain ⟨⟨x0, x1, x2⟩, _⟩ := hx) | (have hx := zcells K1.out; obtain ⟨⟨x0, x1, x2⟩, _⟩ := hx)
        go_simp
        clear x0 x1 x2
        refine hK9.out _ _ ?_ (fun hHeld => ?_)
        · trivial
        clear hK9 K9
        try simp only [Act.put, List.setIfInBounds_toArray, List.set_cons_zero, List.set_cons_succ]
        refine wpAnyH_ready (rs := [3]) (by kernel_rfl) (by simp) ?_
        refine AllReadyH.cons (o := ⟨some 12, _, _, _, _, _⟩) rfl (fun K9 hK9 => ?_) AllReadyH.nil
        go_simp; go_at_call 7
        refine (HF2.out _).mono ?_
        rintro e wb ⟨rfl, hbb⟩
        refine hK9.out _ _ ?_ (fun hHeld => ?_)
        · trivial
        clear hK9 K9
        try simp only [Act.put, List.setIfInBounds_toArray, List.set_cons_zero, List.set_cons_succ]
        refine wpAnyH_ready (rs := [4]) (by kernel_rfl) (by simp) ?_
        refine AllReadyH.cons (o := ⟨none, _, _, _, _, _⟩) rfl (fun K9 hK9 => ?_) AllReadyH.nil
        have Ka := (K0.out.below hba).below hbb; have Kb := (K1.out.below hba).below hbb; have Hb := bt (bt HV.out hba) hbb; obtain ⟨⟨x0, x1, x2⟩, f0, f1, f2⟩ := zcells Ka
        go_simp
        clear f0 f1 f2 x0 x1 x2
        refine hK9.out _ _ ?_ (fun hHeld => ?_)
        · trivial
        clear hK9 K9
        try simp only [Act.put]
        refine wpAnyH_ready (rs := [5]) (by kernel_rfl) (by simp) ?_
        refine AllReadyH.cons (o := ⟨none, _, _, _, _, _⟩) rfl (fun K9 hK9 => ?_) AllReadyH.nil
        have Kc := (((Ka.set_ 0 (.int .i64 N1)).set_ 1 (.slice A1 n1 c1)).set_ 2 (zq F1)); have Kd := (((Kb.far (p := ⟨w.heap.size, 0, none⟩) (by simp) (.int .i64 N1)).far (p := ⟨w.heap.size, 1, none⟩) (by simp) (.slice A1 n1 c1)).far (p := ⟨w.heap.size, 2, none⟩) (by simp) (zq F1)); obtain ⟨⟨x0, x1, x2⟩, f0, f1, f2⟩ := zcells Kd
        go_simp
        clear f0 f1 f2 x0 x1 x2
        refine hK9.out _ _ ?_ (fun hHeld => ?_)
        · trivial
        clear hK9 K9
        try simp only [Act.put]
        refine wpAnyH_done (by kernel_rfl) ?_ _
        go_wp2_with fail
        go_meet
        exact ⟨rfl, Lib.hid ((((Kc.far (p := ⟨w.heap.size + 1, 0, none⟩) (by simp) (.int .i64 N2)).far (p := ⟨w.heap.size + 1, 1, none⟩) (by simp) (.slice A2 n2 c2)).far (p := ⟨w.heap.size + 1, 2, none⟩) (by simp) (zq F2))), Lib.hid ((((Kd.set_ 0 (.int .i64 N2)).set_ 1 (.slice A2 n2 c2)).set_ 2 (zq F2))), Lib.hid ((bs (bs (bs (bs (bs (bs Hb (b := w.heap.size) (o := 0) (by omega) (.int .i64 N1)) (b := w.heap.size) (o := 1) (by omega) (.slice A1 n1 c1)) (b := w.heap.size) (o := 2) (by omega) (zq F1)) (b := w.heap.size + 1) (o := 0) (by omega) (.int .i64 N2)) (b := w.heap.size + 1) (o := 1) (by omega) (.slice A2 n2 c2)) (b := w.heap.size + 1) (o := 2) (by omega) (zq F2)))⟩
      refine AllReadyH.cons (o := ⟨some 11, _, _, _, _, _⟩) rfl (fun K9 hK9 => ?_) AllReadyH.nil
      · skip
        first | (have hx := zcells (K1.out.below hba); obtain ⟨⟨x0, x1, x2⟩, _⟩ := hx) | (have hx := zcells K1.out; obtain ⟨⟨x0, x1, x2⟩, _⟩ := hx)
        go_simp
        clear x0 x1 x2
        refine hK9.out _ _ ?_ (fun hHeld => ?_)
        · trivial
        clear hK9 K9
        try simp only [Act.put, List.setIfInBounds_toArray, List.set_cons_zero, List.set_cons_succ]
        refine wpAnyH_ready (rs := [1]) (by kernel_rfl) (by simp) ?_
        refine AllReadyH.cons (o := ⟨some 10, _, _, _, _, _⟩) rfl (fun K9 hK9 => ?_) AllReadyH.nil
        go_simp; go_at_call 7
        refine (HF1.out _).mono ?_
        rintro e wa ⟨rfl, hba⟩
        refine hK9.out _ _ ?_ (fun hHeld => ?_)
        · trivial
        clear hK9 K9
        try simp only [Act.put, List.setIfInBounds_toArray, List.set_cons_zero, List.set_cons_succ]
        refine wpAnyH_ready (rs := [3]) (by kernel_rfl) (by simp) ?_
        refine AllReadyH.cons (o := ⟨some 12, _, _, _, _, _⟩) rfl (fun K9 hK9 => ?_) AllReadyH.nil
        go_simp; go_at_call 7
        refine (HF2.out _).mono ?_
        rintro e wb ⟨rfl, hbb⟩
        refine hK9.out _ _ ?_ (fun hHeld => ?_)
        · trivial
        clear hK9 K9
        try simp only [Act.put, List.setIfInBounds_toArray, List.set_cons_zero, List.set_cons_succ]
        refine wpAnyH_ready (rs := [4]) (by kernel_rfl) (by simp) ?_
        refine AllReadyH.cons (o := ⟨none, _, _, _, _, _⟩) rfl (fun K9 hK9 => ?_) AllReadyH.nil
        have Ka := (K0.out.below hba).below hbb; have Kb := (K1.out.below hba).below hbb; have Hb := bt (bt HV.out hba) hbb; obtain ⟨⟨x0, x1, x2⟩, f0, f1, f2⟩ := zcells Ka
        go_simp
        clear f0 f1 f2 x0 x1 x2
        refine hK9.out _ _ ?_ (fun hHeld => ?_)
        · trivial
        clear hK9 K9
        try simp only [Act.put]
        refine wpAnyH_ready (rs := [5]) (by kernel_rfl) (by simp) ?_
        refine AllReadyH.cons (o := ⟨none, _, _, _, _, _⟩) rfl (fun K9 hK9 => ?_) AllReadyH.nil
        have Kc := (((Ka.set_ 0 (.int .i64 N1)).set_ 1 (.slice A1 n1 c1)).set_ 2 (zq F1)); have Kd := (((Kb.far (p := ⟨w.heap.size, 0, none⟩) (by simp) (.int .i64 N1)).far (p := ⟨w.heap.size, 1, none⟩) (by simp) (.slice A1 n1 c1)).far (p := ⟨w.heap.size, 2, none⟩) (by simp) (zq F1)); obtain ⟨⟨x0, x1, x2⟩, f0, f1, f2⟩ := zcells Kd
        go_simp
        clear f0 f1 f2 x0 x1 x2
        refine hK9.out _ _ ?_ (fun hHeld => ?_)
        · trivial
        clear hK9 K9
        try simp only [Act.put]
        refine wpAnyH_done (by kernel_rfl) ?_ _
        go_wp2_with fail
        go_meet
        exact ⟨rfl, Lib.hid ((((Kc.far (p := ⟨w.heap.size + 1, 0, none⟩) (by simp) (.int .i64 N2)).far (p := ⟨w.heap.size + 1, 1, none⟩) (by simp) (.slice A2 n2 c2)).far (p := ⟨w.heap.size + 1, 2, none⟩) (by simp) (zq F2))), Lib.hid ((((Kd.set_ 0 (.int .i64 N2)).set_ 1 (.slice A2 n2 c2)).set_ 2 (zq F2))), Lib.hid ((bs (bs (bs (bs (bs (bs Hb (b := w.heap.size) (o := 0) (by omega) (.int .i64 N1)) (b := w.heap.size) (o := 1) (by omega) (.slice A1 n1 c1)) (b := w.heap.size) (o := 2) (by omega) (zq F1)) (b := w.heap.size + 1) (o := 0) (by omega) (.int .i64 N2)) (b := w.heap.size + 1) (o := 1) (by omega) (.slice A2 n2 c2)) (b := w.heap.size + 1) (o := 2) (by omega) (zq F2)))⟩
    refine AllReadyH.cons (o := ⟨some 11, _, _, _, _, _⟩) rfl (fun K9 hK9 => ?_) AllReadyH.nil
    · skip
      first | (have hx := zcells (K1.out.below hba); obtain ⟨⟨x0, x1, x2⟩, _⟩ := hx) | (have hx := zcells K1.out; obtain ⟨⟨x0, x1, x2⟩, _⟩ := hx)
      go_simp
      clear x0 x1 x2
      refine hK9.out _ _ ?_ (fun hHeld => ?_)
      · trivial
      clear hK9 K9
      try simp only [Act.put, List.setIfInBounds_toArray, List.set_cons_zero, List.set_cons_succ]
      refine wpAnyH_ready (rs := [0]) (by kernel_rfl) (by simp) ?_
      refine AllReadyH.cons (o := ⟨some 9, _, _, _, _, _⟩) rfl (fun K9 hK9 => ?_) AllReadyH.nil
      obtain ⟨⟨x0, x1, x2⟩, _⟩ := zcells K0.out
      go_simp
      clear x0 x1 x2
      refine hK9.out _ _ ?_ (fun hHeld => ?_)
      · trivial
      clear hK9 K9
      try simp only [Act.put, List.setIfInBounds_toArray, List.set_cons_zero, List.set_cons_succ]
      refine wpAnyH_ready (rs := [1]) (by kernel_rfl) (by simp) ?_
      refine AllReadyH.cons (o := ⟨some 10, _, _, _, _, _⟩) rfl (fun K9 hK9 => ?_) AllReadyH.nil
      go_simp; go_at_call 7
      refine (HF1.out _).mono ?_
      rintro e wa ⟨rfl, hba⟩
      refine hK9.out _ _ ?_ (fun hHeld => ?_)
      · trivial
      clear hK9 K9
      try simp only [Act.put, List.setIfInBounds_toArray, List.set_cons_zero, List.set_cons_succ]
      refine wpAnyH_ready (rs := [3]) (by kernel_rfl) (by simp) ?_
      refine AllReadyH.cons (o := ⟨some 12, _, _, _, _, _⟩) rfl (fun K9 hK9 => ?_) AllReadyH.nil
      go_simp; go_at_call 7
      refine (HF2.out _).mono ?_
      rintro e wb ⟨rfl, hbb⟩
      refine hK9.out _ _ ?_ (fun hHeld => ?_)
      · trivial
      clear hK9 K9
      try simp only [Act.put, List.setIfInBounds_toArray, List.set_cons_zero, List.set_cons_succ]
      refine wpAnyH_ready (rs := [4]) (by kernel_rfl) (by simp) ?_
      refine AllReadyH.cons (o := ⟨none, _, _, _, _, _⟩) rfl (fun K9 hK9 => ?_) AllReadyH.nil
      have Ka := (K0.out.below hba).below hbb; have Kb := (K1.out.below hba).below hbb; have Hb := bt (bt HV.out hba) hbb; obtain ⟨⟨x0, x1, x2⟩, f0, f1, f2⟩ := zcells Ka
      go_simp
      clear f0 f1 f2 x0 x1 x2
      refine hK9.out _ _ ?_ (fun hHeld => ?_)
      · trivial
      clear hK9 K9
      try simp only [Act.put]
      refine wpAnyH_ready (rs := [5]) (by kernel_rfl) (by simp) ?_
      refine AllReadyH.cons (o := ⟨none, _, _, _, _, _⟩) rfl (fun K9 hK9 => ?_) AllReadyH.nil
      have Kc := (((Ka.set_ 0 (.int .i64 N1)).set_ 1 (.slice A1 n1 c1)).set_ 2 (zq F1)); have Kd := (((Kb.far (p := ⟨w.heap.size, 0, none⟩) (by simp) (.int .i64 N1)).far (p := ⟨w.heap.size, 1, none⟩) (by simp) (.slice A1 n1 c1)).far (p := ⟨w.heap.size, 2, none⟩) (by simp) (zq F1)); obtain ⟨⟨x0, x1, x2⟩, f0, f1, f2⟩ := zcells Kd
      go_simp
      clear f0 f1 f2 x0 x1 x2
      refine hK9.out _ _ ?_ (fun hHeld => ?_)
      · trivial
      clear hK9 K9
      try simp only [Act.put]
      refine wpAnyH_done (by kernel_rfl) ?_ _
      go_wp2_with fail
      go_meet
      exact ⟨rfl, Lib.hid ((((Kc.far (p := ⟨w.heap.size + 1, 0, none⟩) (by simp) (.int .i64 N2)).far (p := ⟨w.heap.size + 1, 1, none⟩) (by simp) (.slice A2 n2 c2)).far (p := ⟨w.heap.size + 1, 2, none⟩) (by simp) (zq F2))), Lib.hid ((((Kd.set_ 0 (.int .i64 N2)).set_ 1 (.slice A2 n2 c2)).set_ 2 (zq F2))), Lib.hid ((bs (bs (bs (bs (bs (bs Hb (b := w.heap.size) (o := 0) (by omega) (.int .i64 N1)) (b := w.heap.size) (o := 1) (by omega) (.slice A1 n1 c1)) (b := w.heap.size) (o := 2) (by omega) (zq F1)) (b := w.heap.size + 1) (o := 0) (by omega) (.int .i64 N2)) (b := w.heap.size + 1) (o := 1) (by omega) (.slice A2 n2 c2)) (b := w.heap.size + 1) (o := 2) (by omega) (zq F2)))⟩
  case rest =>
    obtain ⟨rfl, L0, L1, HW⟩ := hcut
    clear K0 K1 HV HF1 HF2
    go_wp2_with fail
    refine (HNW.out _).mono ?_
    rintro e w3 ⟨A3, rfl, hM3, hb3⟩
    have N0 := Lib.hid (L0.out.below hb3)
    have N1 := Lib.hid (L1.out.below hb3)
    have HB3 := Lib.hid (bt HW.out hb3)
    clear L0 L1 HW
    have M2 := Lib.hid (Blk.new w3 25 (zcs (q : Int) A3 m m 0))
    have M0 := Lib.hid (N0.out.alloc (.cells (zcs (q : Int) A3 m m 0) 25))
    have M1 := Lib.hid (N1.out.alloc (.cells (zcs (q : Int) A3 m m 0) 25))
    have HB4 := Lib.hid (ba HB3.out (.cells (zcs (q : Int) A3 m m 0) 25))
    have X4 := Lib.hid (hM3.later (ba (Below.refl w3.heap.size w3) (.cells (zcs (q : Int) A3 m m 0) 25)))
    clear hM3
    clear N0 N1 hb3
    go_upto_region 3 with fail
    generalize w3.alloc (.cells (zcs (q : Int) A3 m m 0) 25) = w4 at M0 M1 M2 HB4 X4 ⊢
    refine wp_region_held_drew (S := fun W => Below w4.heap.size w4 W) (by kernel_rfl) (Below.refl _ _).drew (fun hHeld => ?_)
    refine wpAnyH_take (i := 0) (oi := ⟨some 18, _, _, _, _, _⟩) (v := zbv N1 A1 n1 c1 F1) rfl (by kernel_rfl) (by kernel_rfl) (by kernel_rfl) (fun _ _ _ h => h) (Or.inl ⟨by rfl, ?_⟩) (by assumption) ?_
    · (intro w9 hSw; obtain ⟨⟨x0, x1, x2⟩, _⟩ := zcells (M0.out.below hSw); (try dsimp only at hSw); go_simp)
    try simp only [Act.put, List.setIfInBounds_toArray, List.set_cons_zero, List.set_cons_succ]
    refine wpAnyH_take (i := 2) (oi := ⟨some 20, _, _, _, _, _⟩) (v := zbv N1 A1 n1 c1 F1) rfl (by kernel_rfl) (by kernel_rfl) (by kernel_rfl) (fun _ _ _ h => h) (Or.inl ⟨by rfl, ?_⟩) (by assumption) ?_
    · (intro w9 hSw; obtain ⟨⟨x0, x1, x2⟩, _⟩ := zcells (M0.out.below hSw); (try dsimp only at hSw); go_simp)
    try simp only [Act.put, List.setIfInBounds_toArray, List.set_cons_zero, List.set_cons_succ]
    refine wpAnyH_ready (rs := [1]) (by kernel_rfl) (by simp) ?_
    refine AllReadyH.cons (o := ⟨some 19, _, _, _, _, _⟩) rfl (fun K9 hK9 => ?_) AllReadyH.nil
    have hcur : Below w4.heap.size w4 _ := hHeld
    go_simp; go_at_call 9
    refine (HRA.out _ (bt HB4.out hcur)).mono ?_
    rintro e wa ⟨rfl, hba⟩
    refine hK9.out _ _ ?_ (fun hHeld => ?_)
    · first | exact bt hcur hba | exact (bt hcur hba).drew
    clear hK9 K9
    try simp only [Act.put, List.setIfInBounds_toArray, List.set_cons_zero, List.set_cons_succ]
    refine wpAnyH_ready (rs := [3]) (by kernel_rfl) (by simp) ?_
    refine AllReadyH.cons (o := ⟨some 21, _, _, _, _, _⟩) rfl (fun K9 hK9 => ?_) AllReadyH.nil
    have hcur : Below w4.heap.size w4 _ := hHeld
    go_simp; go_at_call 10
    refine (HRB.out _ (bt HB4.out hcur)).mono ?_
    rintro e wb ⟨rfl, hbb⟩
    refine hK9.out _ _ ?_ (fun hHeld => ?_)
    · first | exact bt hcur hbb | exact (bt hcur hbb).drew
    clear hK9 K9
    try simp only [Act.put, List.setIfInBounds_toArray, List.set_cons_zero, List.set_cons_succ]
    refine wpAnyH_take (i := 4) (oi := ⟨some 22, _, _, _, _, _⟩) (v := .bool false) rfl (by kernel_rfl) (by kernel_rfl) (by kernel_rfl) (fun _ _ _ h => h) (Or.inl ⟨by rfl, ?_⟩) (by assumption) ?_
    · (intro w9 hSw; (try dsimp only at hSw); go_simp)
    try simp only [Act.put, List.setIfInBounds_toArray, List.set_cons_zero, List.set_cons_succ]
    refine wpAnyH_take (i := 5) (oi := ⟨some 23, _, _, _, _, _⟩) (v := .bool false) rfl (by kernel_rfl) (by kernel_rfl) (by kernel_rfl) (fun _ _ _ h => h) (Or.inl ⟨by rfl, ?_⟩) (by assumption) ?_
    · (intro w9 hSw; (try dsimp only at hSw); go_simp)
    try simp only [Act.put, List.setIfInBounds_toArray, List.set_cons_zero, List.set_cons_succ]
    refine wpAnyH_take (i := 6) (oi := ⟨some 24, _, _, _, _, _⟩) (v := zbv N1 A1 n1 c1 F1) rfl (by kernel_rfl) (by kernel_rfl) (by kernel_rfl) (fun _ _ _ h => h) (Or.inl ⟨by rfl, ?_⟩) (by assumption) ?_
    · (intro w9 hSw; obtain ⟨⟨x0, x1, x2⟩, _⟩ := zcells (M0.out.below hSw); (try dsimp only at hSw); go_simp)
    try simp only [Act.put, List.setIfInBounds_toArray, List.set_cons_zero, List.set_cons_succ]
    refine wpAnyH_take (i := 7) (oi := ⟨some 25, _, _, _, _, _⟩) (v := zbv N2 A2 n2 c2 F2) rfl (by kernel_rfl) (by kernel_rfl) (by kernel_rfl) (fun _ _ _ h => h) (Or.inl ⟨by rfl, ?_⟩) (by assumption) ?_
    · (intro w9 hSw; obtain ⟨⟨x0, x1, x2⟩, _⟩ := zcells (M1.out.below hSw); (try dsimp only at hSw); go_simp)
    try simp only [Act.put, List.setIfInBounds_toArray, List.set_cons_zero, List.set_cons_succ]
    refine wpAnyH_take (i := 9) (oi := ⟨some 27, _, _, _, _, _⟩) (v := zbv N1 A1 n1 c1 F1) rfl (by kernel_rfl) (by kernel_rfl) (by kernel_rfl) (fun _ _ _ h => h) (Or.inl ⟨by rfl, ?_⟩) (by assumption) ?_
    · (intro w9 hSw; obtain ⟨⟨x0, x1, x2⟩, _⟩ := zcells (M0.out.below hSw); (try dsimp only at hSw); go_simp)
    try simp only [Act.put, List.setIfInBounds_toArray, List.set_cons_zero, List.set_cons_succ]
    refine wpAnyH_take (i := 10) (oi := ⟨some 28, _, _, _, _, _⟩) (v := zbv N2 A2 n2 c2 F2) rfl (by kernel_rfl) (by kernel_rfl) (by kernel_rfl) (fun _ _ _ h => h) (Or.inl ⟨by rfl, ?_⟩) (by assumption) ?_
    · (intro w9 hSw; obtain ⟨⟨x0, x1, x2⟩, _⟩ := zcells (M1.out.below hSw); (try dsimp only at hSw); go_simp)
    try simp only [Act.put, List.setIfInBounds_toArray, List.set_cons_zero, List.set_cons_succ]
    refine wpAnyH_ready (rs := [8]) (by kernel_rfl) (by simp) ?_
    refine AllReadyH.cons (o := ⟨some 26, _, _, _, _, _⟩) rfl (fun K9 hK9 => ?_) AllReadyH.nil
    have hcur : Below w4.heap.size w4 _ := hHeld
    go_simp; go_at_call 11
    refine (HLI.out _ (bt HB4.out hcur)).mono ?_
    rintro e wc ⟨rfl, hbc⟩
    refine hK9.out _ _ ?_ (fun hHeld => ?_)
    · first | exact bt hcur hbc | exact (bt hcur hbc).drew
    clear hK9 K9
    try simp only [Act.put, List.setIfInBounds_toArray, List.set_cons_zero, List.set_cons_succ]
    refine wpAnyH_ready (rs := [11]) (by kernel_rfl) (by simp) ?_
    refine AllReadyH.cons (o := ⟨some 29, _, _, _, _, _⟩) rfl (fun K9 hK9 => ?_) AllReadyH.nil
    have hcur : Below w4.heap.size w4 _ := hHeld
    go_simp; go_at_call 12
    refine (HSA.out _ (bt HB4.out hcur)).mono ?_
    rintro e wd ⟨rfl, hbd⟩
    refine hK9.out _ _ ?_ (fun hHeld => ?_)
    · first | exact bt hcur hbd | exact (bt hcur hbd).drew
    clear hK9 K9
    try simp only [Act.put, List.setIfInBounds_toArray, List.set_cons_zero, List.set_cons_succ]
    refine wpAnyH_take (i := 12) (oi := ⟨some 30, _, _, _, _, _⟩) (v := .bool false) rfl (by kernel_rfl) (by kernel_rfl) (by kernel_rfl) (fun _ _ _ h => h) (Or.inl ⟨by rfl, ?_⟩) (by assumption) ?_
    · (intro w9 hSw; (try dsimp only at hSw); go_simp)
    try simp only [Act.put, List.setIfInBounds_toArray, List.set_cons_zero, List.set_cons_succ]
    refine wpAnyH_take (i := 13) (oi := ⟨some 31, _, _, _, _, _⟩) (v := .bool false) rfl (by kernel_rfl) (by kernel_rfl) (by kernel_rfl) (fun _ _ _ h => h) (Or.inl ⟨by rfl, ?_⟩) (by assumption) ?_
    · (intro w9 hSw; (try dsimp only at hSw); go_simp)
    try simp only [Act.put, List.setIfInBounds_toArray, List.set_cons_zero, List.set_cons_succ]
    refine wpAnyH_take (i := 14) (oi := ⟨some 32, _, _, _, _, _⟩) (v := .bool false) rfl (by kernel_rfl) (by kernel_rfl) (by kernel_rfl) (fun _ _ _ h => h) (Or.inl ⟨by rfl, ?_⟩) (by assumption) ?_
    · (intro w9 hSw; (try dsimp only at hSw); go_simp)
    try simp only [Act.put, List.setIfInBounds_toArray, List.set_cons_zero, List.set_cons_succ]
    refine wpAnyH_take (i := 15) (oi := ⟨some 33, _, _, _, _, _⟩) (v := zbv N1 A1 n1 c1 F1) rfl (by kernel_rfl) (by kernel_rfl) (by kernel_rfl) (fun _ _ _ h => h) (Or.inl ⟨by rfl, ?_⟩) (by assumption) ?_
    · (intro w9 hSw; obtain ⟨⟨x0, x1, x2⟩, _⟩ := zcells (M0.out.below hSw); (try dsimp only at hSw); go_simp)
    try simp only [Act.put, List.setIfInBounds_toArray, List.set_cons_zero, List.set_cons_succ]
    refine wpAnyH_take (i := 16) (oi := ⟨some 34, _, _, _, _, _⟩) (v := zbv N1 A1 n1 c1 F1) rfl (by kernel_rfl) (by kernel_rfl) (by kernel_rfl) (fun _ _ _ h => h) (Or.inl ⟨by rfl, ?_⟩) (by assumption) ?_
    · (intro w9 hSw; obtain ⟨⟨x0, x1, x2⟩, _⟩ := zcells (M0.out.below hSw); (try dsimp only at hSw); go_simp)
    try simp only [Act.put, List.setIfInBounds_toArray, List.set_cons_zero, List.set_cons_succ]
    refine wpAnyH_ready (rs := [17]) (by kernel_rfl) (by simp) ?_
    refine AllReadyH.cons (o := ⟨some 35, _, _, _, _, _⟩) rfl (fun K9 hK9 => ?_) AllReadyH.nil
    have hcur : Below w4.heap.size w4 _ := hHeld
    go_simp; go_at_call 11
    refine (HLA.out _ (bt HB4.out hcur)).mono ?_
    rintro e we ⟨rfl, hbe⟩
    refine hK9.out _ _ ?_ (fun hHeld => ?_)
    · first | exact bt hcur hbe | exact (bt hcur hbe).drew
    clear hK9 K9
    try simp only [Act.put, List.setIfInBounds_toArray, List.set_cons_zero, List.set_cons_succ]
    refine wpAnyH_take (i := 18) (oi := ⟨some 36, _, _, _, _, _⟩) (v := .bool false) rfl (by kernel_rfl) (by kernel_rfl) (by kernel_rfl) (fun _ _ _ h => h) (Or.inl ⟨by rfl, ?_⟩) (by assumption) ?_
    · (intro w9 hSw; (try dsimp only at hSw); go_simp)
    try simp only [Act.put, List.setIfInBounds_toArray, List.set_cons_zero, List.set_cons_succ]
    refine wpAnyH_take (i := 19) (oi := ⟨some 37, _, _, _, _, _⟩) (v := .bool false) rfl (by kernel_rfl) (by kernel_rfl) (by kernel_rfl) (fun _ _ _ h => h) (Or.inl ⟨by rfl, ?_⟩) (by assumption) ?_
    · (intro w9 hSw; (try dsimp only at hSw); go_simp)
    try simp only [Act.put, List.setIfInBounds_toArray, List.set_cons_zero, List.set_cons_succ]
    refine wpAnyH_take (i := 20) (oi := ⟨some 38, _, _, _, _, _⟩) (v := .bool false) rfl (by kernel_rfl) (by kernel_rfl) (by kernel_rfl) (fun _ _ _ h => h) (Or.inl ⟨by rfl, ?_⟩) (by assumption) ?_
    · (intro w9 hSw; (try dsimp only at hSw); go_simp)
    try simp only [Act.put, List.setIfInBounds_toArray, List.set_cons_zero, List.set_cons_succ]
    refine wpAnyH_ready (rs := [21]) (by kernel_rfl) (by simp) ?_
    refine AllReadyH.cons (o := ⟨some 39, _, _, _, _, _⟩) rfl (fun K9 hK9 => ?_) AllReadyH.nil
    have hcur : Below w4.heap.size w4 _ := hHeld
    go_simp; go_at_call 13
    refine (HAL.out _).mono ?_
    rintro e wf ⟨rfl, hbf⟩
    refine hK9.out _ _ ?_ (fun hHeld => ?_)
    · first | exact bt hcur hbf | exact (bt hcur hbf).drew
    clear hK9 K9
    try simp only [Act.put, List.setIfInBounds_toArray, List.set_cons_zero, List.set_cons_succ]
    refine wpAnyH_take (i := 22) (oi := ⟨some 40, _, _, _, _, _⟩) (v := .bool false) rfl (by kernel_rfl) (by kernel_rfl) (by kernel_rfl) (fun _ _ _ h => h) (Or.inl ⟨by rfl, ?_⟩) (by assumption) ?_
    · (intro w9 hSw; (try dsimp only at hSw); go_simp)
    try simp only [Act.put, List.setIfInBounds_toArray, List.set_cons_zero, List.set_cons_succ]
    refine wpAnyH_take (i := 23) (oi := ⟨some 41, _, _, _, _, _⟩) (v := .bool false) rfl (by kernel_rfl) (by kernel_rfl) (by kernel_rfl) (fun _ _ _ h => h) (Or.inl ⟨by rfl, ?_⟩) (by assumption) ?_
    · (intro w9 hSw; (try dsimp only at hSw); go_simp)
    try simp only [Act.put, List.setIfInBounds_toArray, List.set_cons_zero, List.set_cons_succ]
    refine wpAnyH_done (by kernel_rfl) ?_ _
    have hfin : Below w4.heap.size w4 _ := hHeld
    have HB5 := Lib.hid (bt HB4.out hfin)
    have M3 := Lib.hid (M2.out.below hfin)
    have HF4 := Lib.hid hfin
    obtain ⟨⟨x0, x1, x2⟩, _⟩ := zcells M3.out
    clear hfin hHeld HRA HRB HLI HSA HLA HAL M0 M1
    have X5 := Lib.hid (X4.out.later HF4.out)
    clear HNW X4 x0 x1 x2
    go_upto_region 7 with fail
    refine wp_region_held_drew (S := fun W => Below wf.heap.size wf W) (by kernel_rfl) (Below.refl _ _).drew (fun hHeld => ?_)
    refine wpAnyH_take (i := 0) (oi := ⟨some 55, _, _, _, _, _⟩) (v := .int .i64 0) rfl (by kernel_rfl) (by kernel_rfl) (by kernel_rfl) (fun _ _ _ h => h) (Or.inl ⟨by rfl, ?_⟩) (by assumption) ?_
    · (intro w9 hSw; (try dsimp only at hSw); go_simp)
    try simp only [Act.put, List.setIfInBounds_toArray, List.set_cons_zero, List.set_cons_succ]
    refine wpAnyH_take (i := 1) (oi := ⟨some 56, _, _, _, _, _⟩) (v := .bool true) rfl (by kernel_rfl) (by kernel_rfl) (by kernel_rfl) (fun _ _ _ h => h) (Or.inl ⟨by rfl, ?_⟩) (by assumption) ?_
    · (intro w9 hSw; (try dsimp only at hSw); go_simp)
    try simp only [Act.put, List.setIfInBounds_toArray, List.set_cons_zero, List.set_cons_succ]
    refine wpAnyH_take (i := 2) (oi := ⟨some 57, _, _, _, _, _⟩) (v := .bool true) rfl (by kernel_rfl) (by kernel_rfl) (by kernel_rfl) (fun _ _ _ h => h) (Or.inl ⟨by rfl, ?_⟩) (by assumption) ?_
    · (intro w9 hSw; (try dsimp only at hSw); go_simp)
    try simp only [Act.put, List.setIfInBounds_toArray, List.set_cons_zero, List.set_cons_succ]
    refine wpAnyH_take (i := 3) (oi := ⟨some 58, _, _, _, _, _⟩) (v := zbv (q : Int) A3 m m 0) rfl (by kernel_rfl) (by kernel_rfl) (by kernel_rfl) (fun _ _ _ h => h) (Or.inl ⟨by rfl, ?_⟩) (by assumption) ?_
    · (intro w9 hSw; obtain ⟨⟨x0, x1, x2⟩, _⟩ := zcells (M3.out.below hSw); (try dsimp only at hSw); go_simp)
    try simp only [Act.put, List.setIfInBounds_toArray, List.set_cons_zero, List.set_cons_succ]
    refine wpAnyH_take (i := 4) (oi := ⟨some 59, _, _, _, _, _⟩) (v := .int .i64 (q : Int)) rfl (by kernel_rfl) (by kernel_rfl) (by kernel_rfl) (fun _ _ _ h => h) (Or.inl ⟨by rfl, ?_⟩) (by assumption) ?_
    · (intro w9 hSw; (try dsimp only at hSw); go_simp)
    try simp only [Act.put, List.setIfInBounds_toArray, List.set_cons_zero, List.set_cons_succ]
    refine wpAnyH_ready (rs := [5]) (by kernel_rfl) (by simp) ?_
    refine AllReadyH.cons (o := ⟨some 60, _, _, _, _, _⟩) rfl (fun K9 hK9 => ?_) AllReadyH.nil
    have hcur : Below wf.heap.size wf _ := hHeld
    go_simp; go_at_call 14
    refine (HRN.out _).mono ?_
    rintro e wg ⟨A7, c7, rfl, hM7, hbg⟩
    have X7 := Lib.hid (And.intro (X5.out.later (bt hcur hbg)) hM7)
    clear hM7
    refine hK9.out _ _ ?_ (fun hHeld => ?_)
    · first | exact bt hcur hbg | exact (bt hcur hbg).drew
    clear hK9 K9
    try simp only [Act.put, List.setIfInBounds_toArray, List.set_cons_zero, List.set_cons_succ]
    refine wpAnyH_ready (rs := [6]) (by kernel_rfl) (by simp) ?_
    refine AllReadyH.cons (o := ⟨some 61, _, _, _, _, _⟩) rfl (fun K9 hK9 => ?_) AllReadyH.nil
    have hcu2 : Below wf.heap.size wf _ := hHeld
    go_simp; go_at_call 12
    refine (HSM.out _ _ _ _ _ X7.out.1 X7.out.2).mono ?_
    rintro e wh ⟨rfl, hbh⟩
    refine hK9.out _ _ ?_ (fun hHeld => ?_)
    · first | exact bt hcu2 hbh | exact (bt hcu2 hbh).drew
    clear hK9 K9
    try simp only [Act.put, List.setIfInBounds_toArray, List.set_cons_zero, List.set_cons_succ]
    refine wpAnyH_take (i := 7) (oi := ⟨some 62, _, _, _, _, _⟩) (v := .bool true) rfl (by kernel_rfl) (by kernel_rfl) (by kernel_rfl) (fun _ _ _ h => h) (Or.inl ⟨by rfl, ?_⟩) (by assumption) ?_
    · (intro w9 hSw; (try dsimp only at hSw); go_simp)
    try simp only [Act.put, List.setIfInBounds_toArray, List.set_cons_zero, List.set_cons_succ]
    refine wpAnyH_take (i := 8) (oi := ⟨some 63, _, _, _, _, _⟩) (v := .bool true) rfl (by kernel_rfl) (by kernel_rfl) (by kernel_rfl) (fun _ _ _ h => h) (Or.inl ⟨by rfl, ?_⟩) (by assumption) ?_
    · (intro w9 hSw; (try dsimp only at hSw); go_simp)
    try simp only [Act.put, List.setIfInBounds_toArray, List.set_cons_zero, List.set_cons_succ]
    refine wpAnyH_take (i := 9) (oi := ⟨some 64, _, _, _, _, _⟩) (v := zbv (q : Int) A3 m m 0) rfl (by kernel_rfl) (by kernel_rfl) (by kernel_rfl) (fun _ _ _ h => h) (Or.inl ⟨by rfl, ?_⟩) (by assumption) ?_
    · (intro w9 hSw; obtain ⟨⟨x0, x1, x2⟩, _⟩ := zcells (M3.out.below hSw); (try dsimp only at hSw); go_simp)
    try simp only [Act.put, List.setIfInBounds_toArray, List.set_cons_zero, List.set_cons_succ]
    refine wpAnyH_ready (rs := [10]) (by kernel_rfl) (by simp) ?_
    refine AllReadyH.cons (o := ⟨some 65, _, _, _, _, _⟩) rfl (fun K9 hK9 => ?_) AllReadyH.nil
    have hcu3 : Below wf.heap.size wf _ := hHeld
    go_simp; go_at_call 9
    refine (HRT.out _ _ (X5.out.later hcu3)).mono ?_
    rintro e wi ⟨rfl, hbi⟩
    refine hK9.out _ _ ?_ (fun hHeld => ?_)
    · first | exact bt hcu3 hbi | exact (bt hcu3 hbi).drew
    clear hK9 K9
    try simp only [Act.put, List.setIfInBounds_toArray, List.set_cons_zero, List.set_cons_succ]
    refine wpAnyH_take (i := 11) (oi := ⟨some 66, _, _, _, _, _⟩) (v := .bool true) rfl (by kernel_rfl) (by kernel_rfl) (by kernel_rfl) (fun _ _ _ h => h) (Or.inl ⟨by rfl, ?_⟩) (by assumption) ?_
    · (intro w9 hSw; (try dsimp only at hSw); go_simp)
    try simp only [Act.put, List.setIfInBounds_toArray, List.set_cons_zero, List.set_cons_succ]
    refine wpAnyH_take (i := 12) (oi := ⟨some 6, _, _, _, _, _⟩) (v := ?_) rfl (by kernel_rfl) (by kernel_rfl) (by kernel_rfl) (fun _ _ _ h => h) (Or.inl ⟨by rfl, ?_⟩) (by assumption) ?_
    rotate_left
    · (intro w9 hSw; (try dsimp only at hSw); go_simp; try with_reducible rfl)
    try simp only [Act.put, List.setIfInBounds_toArray, List.set_cons_zero, List.set_cons_succ]
    refine wpAnyH_done (by kernel_rfl) ?_ _
    have hfin : Below wf.heap.size wf _ := hHeld
    have hB9 := bt HB5.out hfin
    clear hfin hHeld
    go_wp2
    go_ret
    exact ⟨rfl, hB9⟩
end Go.Proofs.Ythknelpcdoebiaa
