/- The walk of RingNew. -/
import Derived.Test.YtnehodipblabbaaQNew
import Derived.Deep.RegionHeld3
import Derived.Deep.DeepCutAuto
import Derived.Deep.CutRange
namespace Go.Proofs.Ytnehodipblabbaa
open Go.RowKit

set_option maxRecDepth 100000 in
set_option maxHeartbeats 8000000 in
theorem qnews_no (f1 m1 f2 m2 : Int) (A1 A2 : Option Addr) (n01 n1 c1 n02 n2 c2 : Nat) (k : Int) (R1 R2 : Bool) (w : World)
    (HF1 : Hid (∀ W, Calls Try.prog 6 #[qv A1 n01 c1 f1 m1] W fun e w' => e = .returned (qv A1 n1 c1 f1 m1) ∧ Below W.heap.size W w'))
    (HF2 : Hid (∀ W, Calls Try.prog 6 #[qv A2 n02 c2 f2 m2] W fun e w' => e = .returned (qv A2 n2 c2 f2 m2) ∧ Below W.heap.size W w'))
    (HRA : Hid (∀ W, Below w.heap.size w W → Calls Try.prog 8 #[qv A1 n1 c1 f1 m1] W fun e w' => e = .returned (.bool R1) ∧ Below W.heap.size W w'))
    (HRB : Hid (∀ W, Below w.heap.size w W → Calls Try.prog 9 #[qv A1 n1 c1 f1 m1] W fun e w' => e = .returned (.bool R1) ∧ Below W.heap.size W w'))
    (HLI : Hid (∀ W, Below w.heap.size w W → Calls Try.prog 10 #[qv A1 n1 c1 f1 m1, qv A2 n2 c2 f2 m2] W fun e w' => e = .returned (.bool R2) ∧ Below W.heap.size W w'))
    (HSA : Hid (∀ W, Below w.heap.size w W → Calls Try.prog 11 #[qv A1 n1 c1 f1 m1, qv A2 n2 c2 f2 m2] W fun e w' => e = .returned (.bool R2) ∧ Below W.heap.size W w'))
    (HLA : Hid (∀ W, Below w.heap.size w W → Calls Try.prog 10 #[qv A1 n1 c1 f1 m1, qv A1 n1 c1 f1 m1] W fun e w' => e = .returned (.bool true) ∧ Below W.heap.size W w'))
    (HAL : Hid (∀ W, Calls Try.prog 12 #[] W fun e w' => e = .returned (.bool true) ∧ Below W.heap.size W w'))
    (HNW : Hid (∀ W, Below w.heap.size w W → Calls Try.prog 7 #[.int .i64 k] W fun e w' => e = .returned (.tuple #[.agg #[.slice none 0 0, .int .i64 0, .int .i64 0], .int .i64 4]) ∧ Below W.heap.size W w'))
    (HSM : Hid (∀ W, Calls Try.prog 11 #[.agg #[.slice none 0 0, .int .i64 0, .int .i64 0], .agg #[.slice none 0 0, .int .i64 0, .int .i64 0]] W fun e w' => e = .returned (.bool true) ∧ Below W.heap.size W w'))
    (hk : k < 1 ∨ (1 ≤ k ∧ 64 < k)) :
    Calls Try.prog 3 #[qv A1 n01 c1 f1 m1, qv A2 n02 c2 f2 m2, .int .i64 k] w fun e w' => e = .returned (.bool true) ∧ Below w.heap.size w w' := by
  have v0 : Blk ((w.alloc (.cells (qcs A1 n01 c1 f1 m1) 24)).alloc (.cells (qcs A2 n02 c2 f2 m2) 24)) w.heap.size 24 (qcs A1 n01 c1 f1 m1) := (Blk.new w _ _).alloc _
  have v1 : Blk ((w.alloc (.cells (qcs A1 n01 c1 f1 m1) 24)).alloc (.cells (qcs A2 n02 c2 f2 m2) 24)) (w.heap.size + 1) 24 (qcs A2 n02 c2 f2 m2) := Blk.newAt (by simp) _ _
  have hV : Below w.heap.size w ((w.alloc (.cells (qcs A1 n01 c1 f1 m1) 24)).alloc (.cells (qcs A2 n02 c2 f2 m2) 24)) := ba (ba (Below.refl _ _) _) _
  go_enter Try.func3, Try.ntmps3
  go_upto_region 1 with fail
  generalize (w.alloc (.cells (qcs A1 n01 c1 f1 m1) 24)).alloc (.cells (qcs A2 n02 c2 f2 m2) 24) = w1 at v0 v1 hV ⊢
  have K0 := Lib.hid v0.drew
  have K1 := Lib.hid v1.drew
  have HV := Lib.hid hV.drew
  clear v0 v1 hV
  go_cut [13] from 9 to 14 (fun s13 wx => s13 = undef ∧ Hid (Blk wx w.heap.size 24 (qcs A1 n1 c1 f1 m1)) ∧ Hid (Blk wx (w.heap.size + 1) 24 (qcs A2 n2 c2 f2 m2)) ∧ Hid (Below w.heap.size w wx))
  case first =>
    refine wp_region_held_drew (S := fun _ => True) (by kernel_rfl) trivial (fun hHeld => ?_)
    refine wpAnyH_ready (rs := [0, 2]) (by kernel_rfl) (by simp) ?_
    refine AllReadyH.cons (o := ⟨some 9, _, _, _, _, _⟩) rfl (fun K9 hK9 => ?_) ?_
    · skip
      obtain ⟨⟨x0, x1, x2⟩, _⟩ := qcells K0.out
      go_simp
      clear x0 x1 x2
      refine hK9.out _ _ ?_ (fun hHeld => ?_)
      · trivial
      clear hK9 K9
      try simp only [Act.put, List.setIfInBounds_toArray, List.set_cons_zero, List.set_cons_succ]
      refine wpAnyH_ready (rs := [1, 2]) (by kernel_rfl) (by simp) ?_
      refine AllReadyH.cons (o := ⟨some 10, _, _, _, _, _⟩) rfl (fun K9 hK9 => ?_) ?_
      · skip
        go_simp; go_at_call 6
        refine (HF1.out _).mono ?_
        rintro e wa ⟨rfl, hba⟩
        refine hK9.out _ _ ?_ (fun hHeld => ?_)
        · trivial
        clear hK9 K9
        try simp only [Act.put, List.setIfInBounds_toArray, List.set_cons_zero, List.set_cons_succ]
        refine wpAnyH_ready (rs := [2]) (by kernel_rfl) (by simp) ?_
        refine AllReadyH.cons (o := ⟨some 11, _, _, _, _, _⟩) rfl (fun K9 hK9 => ?_) AllReadyH.nil
        first | (have hx := qcells (K1.out.below hba); obtain ⟨⟨x0, x1, x2⟩, _⟩ := hx) | (have hx := qcells K1.out; obtain ⟨⟨x0, x1, x2⟩, _⟩ := hx)
        go_simp
        clear x0 x1 x2
        refine hK9.out _ _ ?_ (fun hHeld => ?_)
        · trivial
        clear hK9 K9
        try simp only [Act.put, List.setIfInBounds_toArray, List.set_cons_zero, List.set_cons_succ]
        refine wpAnyH_ready (rs := [3]) (by kernel_rfl) (by simp) ?_
        refine AllReadyH.cons (o := ⟨some 12, _, _, _, _, _⟩) rfl (fun K9 hK9 => ?_) AllReadyH.nil
        go_simp; go_at_call 6
        refine (HF2.out _).mono ?_
        rintro e wb ⟨rfl, hbb⟩
        refine hK9.out _ _ ?_ (fun hHeld => ?_)
        · trivial
        clear hK9 K9
        try simp only [Act.put, List.setIfInBounds_toArray, List.set_cons_zero, List.set_cons_succ]
        refine wpAnyH_ready (rs := [4]) (by kernel_rfl) (by simp) ?_
        refine AllReadyH.cons (o := ⟨none, _, _, _, _, _⟩) rfl (fun K9 hK9 => ?_) AllReadyH.nil
        have Ka := (K0.out.below hba).below hbb; have Kb := (K1.out.below hba).below hbb; have Hb := bt (bt HV.out hba) hbb; obtain ⟨⟨x0, x1, x2⟩, f0, f1, f2⟩ := qcells Ka
        go_simp
        clear f0 f1 f2 x0 x1 x2
        refine hK9.out _ _ ?_ (fun hHeld => ?_)
        · trivial
        clear hK9 K9
        try simp only [Act.put]
        refine wpAnyH_ready (rs := [5]) (by kernel_rfl) (by simp) ?_
        refine AllReadyH.cons (o := ⟨none, _, _, _, _, _⟩) rfl (fun K9 hK9 => ?_) AllReadyH.nil
        have Kc := (((Ka.set_ 0 (.slice A1 n1 c1)).set_ 1 (.int .i64 f1)).set_ 2 (.int .i64 m1)); have Kd := (((Kb.far (p := ⟨w.heap.size, 0, none⟩) (by simp) (.slice A1 n1 c1)).far (p := ⟨w.heap.size, 1, none⟩) (by simp) (.int .i64 f1)).far (p := ⟨w.heap.size, 2, none⟩) (by simp) (.int .i64 m1)); obtain ⟨⟨x0, x1, x2⟩, f0, f1, f2⟩ := qcells Kd
        go_simp
        clear f0 f1 f2 x0 x1 x2
        refine hK9.out _ _ ?_ (fun hHeld => ?_)
        · trivial
        clear hK9 K9
        try simp only [Act.put]
        refine wpAnyH_done (by kernel_rfl) ?_ _
        go_wp2_with fail
        go_meet
        exact ⟨rfl, Lib.hid ((((Kc.far (p := ⟨w.heap.size + 1, 0, none⟩) (by simp) (.slice A2 n2 c2)).far (p := ⟨w.heap.size + 1, 1, none⟩) (by simp) (.int .i64 f2)).far (p := ⟨w.heap.size + 1, 2, none⟩) (by simp) (.int .i64 m2))), Lib.hid ((((Kd.set_ 0 (.slice A2 n2 c2)).set_ 1 (.int .i64 f2)).set_ 2 (.int .i64 m2))), Lib.hid ((bs (bs (bs (bs (bs (bs Hb (b := w.heap.size) (o := 0) (by omega) (.slice A1 n1 c1)) (b := w.heap.size) (o := 1) (by omega) (.int .i64 f1)) (b := w.heap.size) (o := 2) (by omega) (.int .i64 m1)) (b := w.heap.size + 1) (o := 0) (by omega) (.slice A2 n2 c2)) (b := w.heap.size + 1) (o := 1) (by omega) (.int .i64 f2)) (b := w.heap.size + 1) (o := 2) (by omega) (.int .i64 m2)))⟩
      refine AllReadyH.cons (o := ⟨some 11, _, _, _, _, _⟩) rfl (fun K9 hK9 => ?_) AllReadyH.nil
      · skip
        first | (have hx := qcells (K1.out.below hba); obtain ⟨⟨x0, x1, x2⟩, _⟩ := hx) | (have hx := qcells K1.out; obtain ⟨⟨x0, x1, x2⟩, _⟩ := hx)
        go_simp
        clear x0 x1 x2
        refine hK9.out _ _ ?_ (fun hHeld => ?_)
        · trivial
        clear hK9 K9
        try simp only [Act.put, List.setIfInBounds_toArray, List.set_cons_zero, List.set_cons_succ]
        refine wpAnyH_ready (rs := [1]) (by kernel_rfl) (by simp) ?_
        refine AllReadyH.cons (o := ⟨some 10, _, _, _, _, _⟩) rfl (fun K9 hK9 => ?_) AllReadyH.nil
        go_simp; go_at_call 6
        refine (HF1.out _).mono ?_
        rintro e wa ⟨rfl, hba⟩
        refine hK9.out _ _ ?_ (fun hHeld => ?_)
        · trivial
        clear hK9 K9
        try simp only [Act.put, List.setIfInBounds_toArray, List.set_cons_zero, List.set_cons_succ]
        refine wpAnyH_ready (rs := [3]) (by kernel_rfl) (by simp) ?_
        refine AllReadyH.cons (o := ⟨some 12, _, _, _, _, _⟩) rfl (fun K9 hK9 => ?_) AllReadyH.nil
        go_simp; go_at_call 6
        refine (HF2.out _).mono ?_
        rintro e wb ⟨rfl, hbb⟩
        refine hK9.out _ _ ?_ (fun hHeld => ?_)
        · trivial
        clear hK9 K9
        try simp only [Act.put, List.setIfInBounds_toArray, List.set_cons_zero, List.set_cons_succ]
        refine wpAnyH_ready (rs := [4]) (by kernel_rfl) (by simp) ?_
        refine AllReadyH.cons (o := ⟨none, _, _, _, _, _⟩) rfl (fun K9 hK9 => ?_) AllReadyH.nil
        have Ka := (K0.out.below hba).below hbb; have Kb := (K1.out.below hba).below hbb; have Hb := bt (bt HV.out hba) hbb; obtain ⟨⟨x0, x1, x2⟩, f0, f1, f2⟩ := qcells Ka
        go_simp
        clear f0 f1 f2 x0 x1 x2
        refine hK9.out _ _ ?_ (fun hHeld => ?_)
        · trivial
        clear hK9 K9
        try simp only [Act.put]
        refine wpAnyH_ready (rs := [5]) (by kernel_rfl) (by simp) ?_
        refine AllReadyH.cons (o := ⟨none, _, _, _, _, _⟩) rfl (fun K9 hK9 => ?_) AllReadyH.nil
        have Kc := (((Ka.set_ 0 (.slice A1 n1 c1)).set_ 1 (.int .i64 f1)).set_ 2 (.int .i64 m1)); have Kd := (((Kb.far (p := ⟨w.heap.size, 0, none⟩) (by simp) (.slice A1 n1 c1)).far (p := ⟨w.heap.size, 1, none⟩) (by simp) (.int .i64 f1)).far (p := ⟨w.heap.size, 2, none⟩) (by simp) (.int .i64 m1)); obtain ⟨⟨x0, x1, x2⟩, f0, f1, f2⟩ := qcells Kd
        go_simp
        clear f0 f1 f2 x0 x1 x2
        refine hK9.out _ _ ?_ (fun hHeld => ?_)
        · trivial
        clear hK9 K9
        try simp only [Act.put]
        refine wpAnyH_done (by kernel_rfl) ?_ _
        go_wp2_with fail
        go_meet
        exact ⟨rfl, Lib.hid ((((Kc.far (p := ⟨w.heap.size + 1, 0, none⟩) (by simp) (.slice A2 n2 c2)).far (p := ⟨w.heap.size + 1, 1, none⟩) (by simp) (.int .i64 f2)).far (p := ⟨w.heap.size + 1, 2, none⟩) (by simp) (.int .i64 m2))), Lib.hid ((((Kd.set_ 0 (.slice A2 n2 c2)).set_ 1 (.int .i64 f2)).set_ 2 (.int .i64 m2))), Lib.hid ((bs (bs (bs (bs (bs (bs Hb (b := w.heap.size) (o := 0) (by omega) (.slice A1 n1 c1)) (b := w.heap.size) (o := 1) (by omega) (.int .i64 f1)) (b := w.heap.size) (o := 2) (by omega) (.int .i64 m1)) (b := w.heap.size + 1) (o := 0) (by omega) (.slice A2 n2 c2)) (b := w.heap.size + 1) (o := 1) (by omega) (.int .i64 f2)) (b := w.heap.size + 1) (o := 2) (by omega) (.int .i64 m2)))⟩
    refine AllReadyH.cons (o := ⟨some 11, _, _, _, _, _⟩) rfl (fun K9 hK9 => ?_) AllReadyH.nil
    · skip
      first | (have hx := qcells (K1.out.below hba); obtain ⟨⟨x0, x1, x2⟩, _⟩ := hx) | (have hx := qcells K1.out; obtain ⟨⟨x0, x1, x2⟩, _⟩ := hx)
      go_simp
      clear x0 x1 x2
      refine hK9.out _ _ ?_ (fun hHeld => ?_)
      · trivial
      clear hK9 K9
      try simp only [Act.put, List.setIfInBounds_toArray, List.set_cons_zero, List.set_cons_succ]
      refine wpAnyH_ready (rs := [0]) (by kernel_rfl) (by simp) ?_
      refine AllReadyH.cons (o := ⟨some 9, _, _, _, _, _⟩) rfl (fun K9 hK9 => ?_) AllReadyH.nil
      obtain ⟨⟨x0, x1, x2⟩, _⟩ := qcells K0.out
      go_simp
      clear x0 x1 x2
      refine hK9.out _ _ ?_ (fun hHeld => ?_)
      · trivial
      clear hK9 K9
      try simp only [Act.put, List.setIfInBounds_toArray, List.set_cons_zero, List.set_cons_succ]
      refine wpAnyH_ready (rs := [1]) (by kernel_rfl) (by simp) ?_
      refine AllReadyH.cons (o := ⟨some 10, _, _, _, _, _⟩) rfl (fun K9 hK9 => ?_) AllReadyH.nil
      go_simp; go_at_call 6
      refine (HF1.out _).mono ?_
      rintro e wa ⟨rfl, hba⟩
      refine hK9.out _ _ ?_ (fun hHeld => ?_)
      · trivial
      clear hK9 K9
      try simp only [Act.put, List.setIfInBounds_toArray, List.set_cons_zero, List.set_cons_succ]
      refine wpAnyH_ready (rs := [3]) (by kernel_rfl) (by simp) ?_
      refine AllReadyH.cons (o := ⟨some 12, _, _, _, _, _⟩) rfl (fun K9 hK9 => ?_) AllReadyH.nil
      go_simp; go_at_call 6
      refine (HF2.out _).mono ?_
      rintro e wb ⟨rfl, hbb⟩
      refine hK9.out _ _ ?_ (fun hHeld => ?_)
      · trivial
      clear hK9 K9
      try simp only [Act.put, List.setIfInBounds_toArray, List.set_cons_zero, List.set_cons_succ]
      refine wpAnyH_ready (rs := [4]) (by kernel_rfl) (by simp) ?_
      refine AllReadyH.cons (o := ⟨none, _, _, _, _, _⟩) rfl (fun K9 hK9 => ?_) AllReadyH.nil
      have Ka := (K0.out.below hba).below hbb; have Kb := (K1.out.below hba).below hbb; have Hb := bt (bt HV.out hba) hbb; obtain ⟨⟨x0, x1, x2⟩, f0, f1, f2⟩ := qcells Ka
      go_simp
      clear f0 f1 f2 x0 x1 x2
      refine hK9.out _ _ ?_ (fun hHeld => ?_)
      · trivial
      clear hK9 K9
      try simp only [Act.put]
      refine wpAnyH_ready (rs := [5]) (by kernel_rfl) (by simp) ?_
      refine AllReadyH.cons (o := ⟨none, _, _, _, _, _⟩) rfl (fun K9 hK9 => ?_) AllReadyH.nil
      have Kc := (((Ka.set_ 0 (.slice A1 n1 c1)).set_ 1 (.int .i64 f1)).set_ 2 (.int .i64 m1)); have Kd := (((Kb.far (p := ⟨w.heap.size, 0, none⟩) (by simp) (.slice A1 n1 c1)).far (p := ⟨w.heap.size, 1, none⟩) (by simp) (.int .i64 f1)).far (p := ⟨w.heap.size, 2, none⟩) (by simp) (.int .i64 m1)); obtain ⟨⟨x0, x1, x2⟩, f0, f1, f2⟩ := qcells Kd
      go_simp
      clear f0 f1 f2 x0 x1 x2
      refine hK9.out _ _ ?_ (fun hHeld => ?_)
      · trivial
      clear hK9 K9
      try simp only [Act.put]
      refine wpAnyH_done (by kernel_rfl) ?_ _
      go_wp2_with fail
      go_meet
      exact ⟨rfl, Lib.hid ((((Kc.far (p := ⟨w.heap.size + 1, 0, none⟩) (by simp) (.slice A2 n2 c2)).far (p := ⟨w.heap.size + 1, 1, none⟩) (by simp) (.int .i64 f2)).far (p := ⟨w.heap.size + 1, 2, none⟩) (by simp) (.int .i64 m2))), Lib.hid ((((Kd.set_ 0 (.slice A2 n2 c2)).set_ 1 (.int .i64 f2)).set_ 2 (.int .i64 m2))), Lib.hid ((bs (bs (bs (bs (bs (bs Hb (b := w.heap.size) (o := 0) (by omega) (.slice A1 n1 c1)) (b := w.heap.size) (o := 1) (by omega) (.int .i64 f1)) (b := w.heap.size) (o := 2) (by omega) (.int .i64 m1)) (b := w.heap.size + 1) (o := 0) (by omega) (.slice A2 n2 c2)) (b := w.heap.size + 1) (o := 1) (by omega) (.int .i64 f2)) (b := w.heap.size + 1) (o := 2) (by omega) (.int .i64 m2)))⟩
  case rest =>
    obtain ⟨rfl, L0, L1, HW⟩ := hcut
    clear K0 K1 HV HF1 HF2
    go_wp2_with fail
    refine (HNW.out _ HW.out).mono ?_
    rintro e w3 ⟨rfl, hb3⟩
    have N0 := Lib.hid (L0.out.below hb3)
    have N1 := Lib.hid (L1.out.below hb3)
    have HB3 := Lib.hid (bt HW.out hb3)
    clear L0 L1 HW
    have M2 := Lib.hid (Blk.new w3 24 #[.slice none 0 0, .int .i64 0, .int .i64 0])
    have M0 := Lib.hid (N0.out.alloc (.cells #[.slice none 0 0, .int .i64 0, .int .i64 0] 24))
    have M1 := Lib.hid (N1.out.alloc (.cells #[.slice none 0 0, .int .i64 0, .int .i64 0] 24))
    have HB4 := Lib.hid (ba HB3.out (.cells #[.slice none 0 0, .int .i64 0, .int .i64 0] 24))
    clear N0 N1 hb3
    go_upto_region 3 with fail
    generalize w3.alloc (.cells #[.slice none 0 0, .int .i64 0, .int .i64 0] 24) = w4 at M0 M1 M2 HB4 ⊢
    refine wp_region_held_drew (S := fun W => Below w4.heap.size w4 W) (by kernel_rfl) (Below.refl _ _).drew (fun hHeld => ?_)
    refine wpAnyH_take (i := 0) (oi := ⟨some 18, _, _, _, _, _⟩) (v := qv A1 n1 c1 f1 m1) rfl (by kernel_rfl) (by kernel_rfl) (by kernel_rfl) (fun _ _ _ h => h) (Or.inl ⟨by rfl, ?_⟩) (by assumption) ?_
    · (intro w9 hSw; obtain ⟨⟨x0, x1, x2⟩, _⟩ := qcells (M0.out.below hSw); (try dsimp only at hSw); go_simp)
    try simp only [Act.put, List.setIfInBounds_toArray, List.set_cons_zero, List.set_cons_succ]
    refine wpAnyH_take (i := 2) (oi := ⟨some 20, _, _, _, _, _⟩) (v := qv A1 n1 c1 f1 m1) rfl (by kernel_rfl) (by kernel_rfl) (by kernel_rfl) (fun _ _ _ h => h) (Or.inl ⟨by rfl, ?_⟩) (by assumption) ?_
    · (intro w9 hSw; obtain ⟨⟨x0, x1, x2⟩, _⟩ := qcells (M0.out.below hSw); (try dsimp only at hSw); go_simp)
    try simp only [Act.put, List.setIfInBounds_toArray, List.set_cons_zero, List.set_cons_succ]
    refine wpAnyH_ready (rs := [1]) (by kernel_rfl) (by simp) ?_
    refine AllReadyH.cons (o := ⟨some 19, _, _, _, _, _⟩) rfl (fun K9 hK9 => ?_) AllReadyH.nil
    have hcur : Below w4.heap.size w4 _ := hHeld
    go_simp; go_at_call 8
    refine (HRA.out _ (bt HB4.out hcur)).mono ?_
    rintro e wa ⟨rfl, hba⟩
    refine hK9.out _ _ ?_ (fun hHeld => ?_)
    · first | exact bt hcur hba | exact (bt hcur hba).drew
    clear hK9 K9
    try simp only [Act.put, List.setIfInBounds_toArray, List.set_cons_zero, List.set_cons_succ]
    refine wpAnyH_ready (rs := [3]) (by kernel_rfl) (by simp) ?_
    refine AllReadyH.cons (o := ⟨some 21, _, _, _, _, _⟩) rfl (fun K9 hK9 => ?_) AllReadyH.nil
    have hcur : Below w4.heap.size w4 _ := hHeld
    go_simp; go_at_call 9
    refine (HRB.out _ (bt HB4.out hcur)).mono ?_
    rintro e wb ⟨rfl, hbb⟩
    refine hK9.out _ _ ?_ (fun hHeld => ?_)
    · first | exact bt hcur hbb | exact (bt hcur hbb).drew
    clear hK9 K9
    try simp only [Act.put, List.setIfInBounds_toArray, List.set_cons_zero, List.set_cons_succ]
    refine wpAnyH_take (i := 4) (oi := ⟨some 22, _, _, _, _, _⟩) (v := .bool false) rfl (by kernel_rfl) (by kernel_rfl) (by kernel_rfl) (fun _ _ _ h => h) (Or.inl ⟨by rfl, ?_⟩) (by assumption) ?_
    · (intro w9 hSw; (try dsimp only at hSw); go_simp)
    try simp only [Act.put, List.setIfInBounds_toArray, List.set_cons_zero, List.set_cons_succ]
    refine wpAnyH_take (i := 5) (oi := ⟨some 23, _, _, _, _, _⟩) (v := .bool false) rfl (by kernel_rfl) (by kernel_rfl) (by kernel_rfl) (fun _ _ _ h => h) (Or.inl ⟨by rfl, ?_⟩) (by assumption) ?_
    · (intro w9 hSw; (try dsimp only at hSw); go_simp)
    try simp only [Act.put, List.setIfInBounds_toArray, List.set_cons_zero, List.set_cons_succ]
    refine wpAnyH_take (i := 6) (oi := ⟨some 24, _, _, _, _, _⟩) (v := qv A1 n1 c1 f1 m1) rfl (by kernel_rfl) (by kernel_rfl) (by kernel_rfl) (fun _ _ _ h => h) (Or.inl ⟨by rfl, ?_⟩) (by assumption) ?_
    · (intro w9 hSw; obtain ⟨⟨x0, x1, x2⟩, _⟩ := qcells (M0.out.below hSw); (try dsimp only at hSw); go_simp)
    try simp only [Act.put, List.setIfInBounds_toArray, List.set_cons_zero, List.set_cons_succ]
    refine wpAnyH_take (i := 7) (oi := ⟨some 25, _, _, _, _, _⟩) (v := qv A2 n2 c2 f2 m2) rfl (by kernel_rfl) (by kernel_rfl) (by kernel_rfl) (fun _ _ _ h => h) (Or.inl ⟨by rfl, ?_⟩) (by assumption) ?_
    · (intro w9 hSw; obtain ⟨⟨x0, x1, x2⟩, _⟩ := qcells (M1.out.below hSw); (try dsimp only at hSw); go_simp)
    try simp only [Act.put, List.setIfInBounds_toArray, List.set_cons_zero, List.set_cons_succ]
    refine wpAnyH_take (i := 9) (oi := ⟨some 27, _, _, _, _, _⟩) (v := qv A1 n1 c1 f1 m1) rfl (by kernel_rfl) (by kernel_rfl) (by kernel_rfl) (fun _ _ _ h => h) (Or.inl ⟨by rfl, ?_⟩) (by assumption) ?_
    · (intro w9 hSw; obtain ⟨⟨x0, x1, x2⟩, _⟩ := qcells (M0.out.below hSw); (try dsimp only at hSw); go_simp)
    try simp only [Act.put, List.setIfInBounds_toArray, List.set_cons_zero, List.set_cons_succ]
    refine wpAnyH_take (i := 10) (oi := ⟨some 28, _, _, _, _, _⟩) (v := qv A2 n2 c2 f2 m2) rfl (by kernel_rfl) (by kernel_rfl) (by kernel_rfl) (fun _ _ _ h => h) (Or.inl ⟨by rfl, ?_⟩) (by assumption) ?_
    · (intro w9 hSw; obtain ⟨⟨x0, x1, x2⟩, _⟩ := qcells (M1.out.below hSw); (try dsimp only at hSw); go_simp)
    try simp only [Act.put, List.setIfInBounds_toArray, List.set_cons_zero, List.set_cons_succ]
    refine wpAnyH_ready (rs := [8]) (by kernel_rfl) (by simp) ?_
    refine AllReadyH.cons (o := ⟨some 26, _, _, _, _, _⟩) rfl (fun K9 hK9 => ?_) AllReadyH.nil
    have hcur : Below w4.heap.size w4 _ := hHeld
    go_simp; go_at_call 10
    refine (HLI.out _ (bt HB4.out hcur)).mono ?_
    rintro e wc ⟨rfl, hbc⟩
    refine hK9.out _ _ ?_ (fun hHeld => ?_)
    · first | exact bt hcur hbc | exact (bt hcur hbc).drew
    clear hK9 K9
    try simp only [Act.put, List.setIfInBounds_toArray, List.set_cons_zero, List.set_cons_succ]
    refine wpAnyH_ready (rs := [11]) (by kernel_rfl) (by simp) ?_
    refine AllReadyH.cons (o := ⟨some 29, _, _, _, _, _⟩) rfl (fun K9 hK9 => ?_) AllReadyH.nil
    have hcur : Below w4.heap.size w4 _ := hHeld
    go_simp; go_at_call 11
    refine (HSA.out _ (bt HB4.out hcur)).mono ?_
    rintro e wd ⟨rfl, hbd⟩
    refine hK9.out _ _ ?_ (fun hHeld => ?_)
    · first | exact bt hcur hbd | exact (bt hcur hbd).drew
    clear hK9 K9
    try simp only [Act.put, List.setIfInBounds_toArray, List.set_cons_zero, List.set_cons_succ]
    refine wpAnyH_take (i := 12) (oi := ⟨some 30, _, _, _, _, _⟩) (v := .bool false) rfl (by kernel_rfl) (by kernel_rfl) (by kernel_rfl) (fun _ _ _ h => h) (Or.inl ⟨by rfl, ?_⟩) (by assumption) ?_
    · (intro w9 hSw; (try dsimp only at hSw); go_simp)
    try simp only [Act.put, List.setIfInBounds_toArray, List.set_cons_zero, List.set_cons_succ]
    refine wpAnyH_take (i := 13) (oi := ⟨some 31, _, _, _, _, _⟩) (v := .bool false) rfl (by kernel_rfl) (by kernel_rfl) (by kernel_rfl) (fun _ _ _ h => h) (Or.inl ⟨by rfl, ?_⟩) (by assumption) ?_
    · (intro w9 hSw; (try dsimp only at hSw); go_simp)
    try simp only [Act.put, List.setIfInBounds_toArray, List.set_cons_zero, List.set_cons_succ]
    refine wpAnyH_take (i := 14) (oi := ⟨some 32, _, _, _, _, _⟩) (v := .bool false) rfl (by kernel_rfl) (by kernel_rfl) (by kernel_rfl) (fun _ _ _ h => h) (Or.inl ⟨by rfl, ?_⟩) (by assumption) ?_
    · (intro w9 hSw; (try dsimp only at hSw); go_simp)
    try simp only [Act.put, List.setIfInBounds_toArray, List.set_cons_zero, List.set_cons_succ]
    refine wpAnyH_take (i := 15) (oi := ⟨some 33, _, _, _, _, _⟩) (v := qv A1 n1 c1 f1 m1) rfl (by kernel_rfl) (by kernel_rfl) (by kernel_rfl) (fun _ _ _ h => h) (Or.inl ⟨by rfl, ?_⟩) (by assumption) ?_
    · (intro w9 hSw; obtain ⟨⟨x0, x1, x2⟩, _⟩ := qcells (M0.out.below hSw); (try dsimp only at hSw); go_simp)
    try simp only [Act.put, List.setIfInBounds_toArray, List.set_cons_zero, List.set_cons_succ]
    refine wpAnyH_take (i := 16) (oi := ⟨some 34, _, _, _, _, _⟩) (v := qv A1 n1 c1 f1 m1) rfl (by kernel_rfl) (by kernel_rfl) (by kernel_rfl) (fun _ _ _ h => h) (Or.inl ⟨by rfl, ?_⟩) (by assumption) ?_
    · (intro w9 hSw; obtain ⟨⟨x0, x1, x2⟩, _⟩ := qcells (M0.out.below hSw); (try dsimp only at hSw); go_simp)
    try simp only [Act.put, List.setIfInBounds_toArray, List.set_cons_zero, List.set_cons_succ]
    refine wpAnyH_ready (rs := [17]) (by kernel_rfl) (by simp) ?_
    refine AllReadyH.cons (o := ⟨some 35, _, _, _, _, _⟩) rfl (fun K9 hK9 => ?_) AllReadyH.nil
    have hcur : Below w4.heap.size w4 _ := hHeld
    go_simp; go_at_call 10
    refine (HLA.out _ (bt HB4.out hcur)).mono ?_
    rintro e we ⟨rfl, hbe⟩
    refine hK9.out _ _ ?_ (fun hHeld => ?_)
    · first | exact bt hcur hbe | exact (bt hcur hbe).drew
    clear hK9 K9
    try simp only [Act.put, List.setIfInBounds_toArray, List.set_cons_zero, List.set_cons_succ]
    refine wpAnyH_take (i := 18) (oi := ⟨some 36, _, _, _, _, _⟩) (v := .bool false) rfl (by kernel_rfl) (by kernel_rfl) (by kernel_rfl) (fun _ _ _ h => h) (Or.inl ⟨by rfl, ?_⟩) (by assumption) ?_
    · (intro w9 hSw; (try dsimp only at hSw); go_simp)
    try simp only [Act.put, List.setIfInBounds_toArray, List.set_cons_zero, List.set_cons_succ]
    refine wpAnyH_take (i := 19) (oi := ⟨some 37, _, _, _, _, _⟩) (v := .bool false) rfl (by kernel_rfl) (by kernel_rfl) (by kernel_rfl) (fun _ _ _ h => h) (Or.inl ⟨by rfl, ?_⟩) (by assumption) ?_
    · (intro w9 hSw; (try dsimp only at hSw); go_simp)
    try simp only [Act.put, List.setIfInBounds_toArray, List.set_cons_zero, List.set_cons_succ]
    refine wpAnyH_take (i := 20) (oi := ⟨some 38, _, _, _, _, _⟩) (v := .bool false) rfl (by kernel_rfl) (by kernel_rfl) (by kernel_rfl) (fun _ _ _ h => h) (Or.inl ⟨by rfl, ?_⟩) (by assumption) ?_
    · (intro w9 hSw; (try dsimp only at hSw); go_simp)
    try simp only [Act.put, List.setIfInBounds_toArray, List.set_cons_zero, List.set_cons_succ]
    refine wpAnyH_ready (rs := [21]) (by kernel_rfl) (by simp) ?_
    refine AllReadyH.cons (o := ⟨some 39, _, _, _, _, _⟩) rfl (fun K9 hK9 => ?_) AllReadyH.nil
    have hcur : Below w4.heap.size w4 _ := hHeld
    go_simp; go_at_call 12
    refine (HAL.out _).mono ?_
    rintro e wf ⟨rfl, hbf⟩
    refine hK9.out _ _ ?_ (fun hHeld => ?_)
    · first | exact bt hcur hbf | exact (bt hcur hbf).drew
    clear hK9 K9
    try simp only [Act.put, List.setIfInBounds_toArray, List.set_cons_zero, List.set_cons_succ]
    refine wpAnyH_take (i := 22) (oi := ⟨some 40, _, _, _, _, _⟩) (v := .bool false) rfl (by kernel_rfl) (by kernel_rfl) (by kernel_rfl) (fun _ _ _ h => h) (Or.inl ⟨by rfl, ?_⟩) (by assumption) ?_
    · (intro w9 hSw; (try dsimp only at hSw); go_simp)
    try simp only [Act.put, List.setIfInBounds_toArray, List.set_cons_zero, List.set_cons_succ]
    refine wpAnyH_take (i := 23) (oi := ⟨some 41, _, _, _, _, _⟩) (v := .bool false) rfl (by kernel_rfl) (by kernel_rfl) (by kernel_rfl) (fun _ _ _ h => h) (Or.inl ⟨by rfl, ?_⟩) (by assumption) ?_
    · (intro w9 hSw; (try dsimp only at hSw); go_simp)
    try simp only [Act.put, List.setIfInBounds_toArray, List.set_cons_zero, List.set_cons_succ]
    refine wpAnyH_done (by kernel_rfl) ?_ _
    have hfin : Below w4.heap.size w4 _ := hHeld
    have HB5 := Lib.hid (bt HB4.out hfin)
    have M3 := Lib.hid (M2.out.below hfin)
    have HF4 := Lib.hid hfin
    obtain ⟨⟨x0, x1, x2⟩, _⟩ := qcells M3.out
    clear hfin hHeld HRA HRB HLI HSA HLA HAL M0 M1
    rcases hk with hk1 | ⟨hk1, hk2⟩
    all_goals
      go_wp2_with fail
      refine (HSM.out _).mono ?_
      rintro e w9 ⟨rfl, hb9⟩
      go_wp2_with fail
      go_ret
      exact ⟨rfl, bt HB5.out hb9⟩

set_option maxRecDepth 100000 in
set_option maxHeartbeats 8000000 in
theorem qnews_yes (f1 m1 f2 m2 : Int) (A1 A2 : Option Addr) (n01 n1 c1 n02 n2 c2 : Nat) (q : Nat) (R1 R2 : Bool) (w : World)
    (HF1 : Hid (∀ W, Calls Try.prog 6 #[qv A1 n01 c1 f1 m1] W fun e w' => e = .returned (qv A1 n1 c1 f1 m1) ∧ Below W.heap.size W w'))
    (HF2 : Hid (∀ W, Calls Try.prog 6 #[qv A2 n02 c2 f2 m2] W fun e w' => e = .returned (qv A2 n2 c2 f2 m2) ∧ Below W.heap.size W w'))
    (HRA : Hid (∀ W, Below w.heap.size w W → Calls Try.prog 8 #[qv A1 n1 c1 f1 m1] W fun e w' => e = .returned (.bool R1) ∧ Below W.heap.size W w'))
    (HRB : Hid (∀ W, Below w.heap.size w W → Calls Try.prog 9 #[qv A1 n1 c1 f1 m1] W fun e w' => e = .returned (.bool R1) ∧ Below W.heap.size W w'))
    (HLI : Hid (∀ W, Below w.heap.size w W → Calls Try.prog 10 #[qv A1 n1 c1 f1 m1, qv A2 n2 c2 f2 m2] W fun e w' => e = .returned (.bool R2) ∧ Below W.heap.size W w'))
    (HSA : Hid (∀ W, Below w.heap.size w W → Calls Try.prog 11 #[qv A1 n1 c1 f1 m1, qv A2 n2 c2 f2 m2] W fun e w' => e = .returned (.bool R2) ∧ Below W.heap.size W w'))
    (HLA : Hid (∀ W, Below w.heap.size w W → Calls Try.prog 10 #[qv A1 n1 c1 f1 m1, qv A1 n1 c1 f1 m1] W fun e w' => e = .returned (.bool true) ∧ Below W.heap.size W w'))
    (HAL : Hid (∀ W, Calls Try.prog 12 #[] W fun e w' => e = .returned (.bool true) ∧ Below W.heap.size W w'))
    (HNW : Hid (∀ W, Calls Try.prog 7 #[.int .i64 (q : Int)] W fun e w' => ∃ A, e = .returned (.tuple #[qv A q q 0 0, .int .i64 0]) ∧ QM w' A q q (List.replicate q []) ∧ Below W.heap.size W w'))
    (HSM : Hid (∀ W A1 c1 A2 c2, QM W A1 q c1 (List.replicate q []) → QM W A2 q c2 (List.replicate q []) → Calls Try.prog 11 #[qv A1 q c1 0 0, qv A2 q c2 0 0] W fun e w' => e = .returned (.bool true) ∧ Below W.heap.size W w'))
    (hk1 : 1 ≤ q) (hk2 : q ≤ 64) :
    Calls Try.prog 3 #[qv A1 n01 c1 f1 m1, qv A2 n02 c2 f2 m2, .int .i64 (q : Int)] w fun e w' => e = .returned (.bool true) ∧ Below w.heap.size w w' := by
  have v0 : Blk ((w.alloc (.cells (qcs A1 n01 c1 f1 m1) 24)).alloc (.cells (qcs A2 n02 c2 f2 m2) 24)) w.heap.size 24 (qcs A1 n01 c1 f1 m1) := (Blk.new w _ _).alloc _
  have v1 : Blk ((w.alloc (.cells (qcs A1 n01 c1 f1 m1) 24)).alloc (.cells (qcs A2 n02 c2 f2 m2) 24)) (w.heap.size + 1) 24 (qcs A2 n02 c2 f2 m2) := Blk.newAt (by simp) _ _
  have hV : Below w.heap.size w ((w.alloc (.cells (qcs A1 n01 c1 f1 m1) 24)).alloc (.cells (qcs A2 n02 c2 f2 m2) 24)) := ba (ba (Below.refl _ _) _) _
  have i1 : ¬ (q : Int) < 1 := by omega
  have i2 : (q : Int) ≤ 64 := by omega
  go_enter Try.func3, Try.ntmps3
  go_upto_region 1 with fail
  generalize (w.alloc (.cells (qcs A1 n01 c1 f1 m1) 24)).alloc (.cells (qcs A2 n02 c2 f2 m2) 24) = w1 at v0 v1 hV ⊢
  have K0 := Lib.hid v0.drew
  have K1 := Lib.hid v1.drew
  have HV := Lib.hid hV.drew
  clear v0 v1 hV
  go_cut [13] from 9 to 14 (fun s13 wx => s13 = undef ∧ Hid (Blk wx w.heap.size 24 (qcs A1 n1 c1 f1 m1)) ∧ Hid (Blk wx (w.heap.size + 1) 24 (qcs A2 n2 c2 f2 m2)) ∧ Hid (Below w.heap.size w wx))
  case first =>
    refine wp_region_held_drew (S := fun _ => True) (by kernel_rfl) trivial (fun hHeld => ?_)
    refine wpAnyH_ready (rs := [0, 2]) (by kernel_rfl) (by simp) ?_
    refine AllReadyH.cons (o := ⟨some 9, _, _, _, _, _⟩) rfl (fun K9 hK9 => ?_) ?_
    · skip
      obtain ⟨⟨x0, x1, x2⟩, _⟩ := qcells K0.out
      go_simp
      clear x0 x1 x2
      refine hK9.out _ _ ?_ (fun hHeld => ?_)
      · trivial
      clear hK9 K9
      try simp only [Act.put, List.setIfInBounds_toArray, List.set_cons_zero, List.set_cons_succ]
      refine wpAnyH_ready (rs := [1, 2]) (by kernel_rfl) (by simp) ?_
      refine AllReadyH.cons (o := ⟨some 10, _, _, _, _, _⟩) rfl (fun K9 hK9 => ?_) ?_
      · skip
        go_simp; go_at_call 6
        refine (HF1.out _).mono ?_
        rintro e wa ⟨rfl, hba⟩
        refine hK9.out _ _ ?_ (fun hHeld => ?_)
        · trivial
        clear hK9 K9
        try simp only [Act.put, List.setIfInBounds_toArray, List.set_cons_zero, List.set_cons_succ]
        refine wpAnyH_ready (rs := [2]) (by kernel_rfl) (by simp) ?_
        refine AllReadyH.cons (o := ⟨some 11, _, _, _, _, _⟩) rfl (fun K9 hK9 => ?_) AllReadyH.nil
        first | (have hx := qcells (K1.out.below hba); obtain ⟨⟨x0, x1, x2⟩, _⟩ := hx) | (have hx := qcells K1.out; obtain ⟨⟨x0, x1, x2⟩, _⟩ := hx)
        go_simp
        clear x0 x1 x2
        refine hK9.out _ _ ?_ (fun hHeld => ?_)
        · trivial
        clear hK9 K9
        try simp only [Act.put, List.setIfInBounds_toArray, List.set_cons_zero, List.set_cons_succ]
        refine wpAnyH_ready (rs := [3]) (by kernel_rfl) (by simp) ?_
        refine AllReadyH.cons (o := ⟨some 12, _, _, _, _, _⟩) rfl (fun K9 hK9 => ?_) AllReadyH.nil
        go_simp; go_at_call 6
        refine (HF2.out _).mono ?_
        rintro e wb ⟨rfl, hbb⟩
        refine hK9.out _ _ ?_ (fun hHeld => ?_)
        · trivial
        clear hK9 K9
        try simp only [Act.put, List.setIfInBounds_toArray, List.set_cons_zero, List.set_cons_succ]
        refine wpAnyH_ready (rs := [4]) (by kernel_rfl) (by simp) ?_
        refine AllReadyH.cons (o := ⟨none, _, _, _, _, _⟩) rfl (fun K9 hK9 => ?_) AllReadyH.nil
        have Ka := (K0.out.below hba).below hbb; have Kb := (K1.out.below hba).below hbb; have Hb := bt (bt HV.out hba) hbb; obtain ⟨⟨x0, x1, x2⟩, f0, f1, f2⟩ := qcells Ka
        go_simp
        clear f0 f1 f2 x0 x1 x2
        refine hK9.out _ _ ?_ (fun hHeld => ?_)
        · trivial
        clear hK9 K9
        try simp only [Act.put]
        refine wpAnyH_ready (rs := [5]) (by kernel_rfl) (by simp) ?_
        refine AllReadyH.cons (o := ⟨none, _, _, _, _, _⟩) rfl (fun K9 hK9 => ?_) AllReadyH.nil
        have Kc := (((Ka.set_ 0 (.slice A1 n1 c1)).set_ 1 (.int .i64 f1)).set_ 2 (.int .i64 m1)); have Kd := (((Kb.far (p := ⟨w.heap.size, 0, none⟩) (by simp) (.slice A1 n1 c1)).far (p := ⟨w.heap.size, 1, none⟩) (by simp) (.int .i64 f1)).far (p := ⟨w.heap.size, 2, none⟩) (by simp) (.int .i64 m1)); obtain ⟨⟨x0, x1, x2⟩, f0, f1, f2⟩ := qcells Kd
        go_simp
        clear f0 f1 f2 x0 x1 x2
        refine hK9.out _ _ ?_ (fun hHeld => ?_)
        · trivial
        clear hK9 K9
        try simp only [Act.put]
        refine wpAnyH_done (by kernel_rfl) ?_ _
        go_wp2_with fail
        go_meet
        exact ⟨rfl, Lib.hid ((((Kc.far (p := ⟨w.heap.size + 1, 0, none⟩) (by simp) (.slice A2 n2 c2)).far (p := ⟨w.heap.size + 1, 1, none⟩) (by simp) (.int .i64 f2)).far (p := ⟨w.heap.size + 1, 2, none⟩) (by simp) (.int .i64 m2))), Lib.hid ((((Kd.set_ 0 (.slice A2 n2 c2)).set_ 1 (.int .i64 f2)).set_ 2 (.int .i64 m2))), Lib.hid ((bs (bs (bs (bs (bs (bs Hb (b := w.heap.size) (o := 0) (by omega) (.slice A1 n1 c1)) (b := w.heap.size) (o := 1) (by omega) (.int .i64 f1)) (b := w.heap.size) (o := 2) (by omega) (.int .i64 m1)) (b := w.heap.size + 1) (o := 0) (by omega) (.slice A2 n2 c2)) (b := w.heap.size + 1) (o := 1) (by omega) (.int .i64 f2)) (b := w.heap.size + 1) (o := 2) (by omega) (.int .i64 m2)))⟩
      refine AllReadyH.cons (o := ⟨some 11, _, _, _, _, _⟩) rfl (fun K9 hK9 => ?_) AllReadyH.nil
      · skip
        first | (have hx := qcells (K1.out.below hba); obtain ⟨⟨x0, x1, x2⟩, _⟩ := hx) | (have hx := qcells K1.out; obtain ⟨⟨x0, x1, x2⟩, _⟩ := hx)
        go_simp
        clear x0 x1 x2
        refine hK9.out _ _ ?_ (fun hHeld => ?_)
        · trivial
        clear hK9 K9
        try simp only [Act.put, List.setIfInBounds_toArray, List.set_cons_zero, List.set_cons_succ]
        refine wpAnyH_ready (rs := [1]) (by kernel_rfl) (by simp) ?_
        refine AllReadyH.cons (o := ⟨some 10, _, _, _, _, _⟩) rfl (fun K9 hK9 => ?_) AllReadyH.nil
        go_simp; go_at_call 6
        refine (HF1.out _).mono ?_
        rintro e wa ⟨rfl, hba⟩
        refine hK9.out _ _ ?_ (fun hHeld => ?_)
        · trivial
        clear hK9 K9
        try simp only [Act.put, List.setIfInBounds_toArray, List.set_cons_zero, List.set_cons_succ]
        refine wpAnyH_ready (rs := [3]) (by kernel_rfl) (by simp) ?_
        refine AllReadyH.cons (o := ⟨some 12, _, _, _, _, _⟩) rfl (fun K9 hK9 => ?_) AllReadyH.nil
        go_simp; go_at_call 6
        refine (HF2.out _).mono ?_
        rintro e wb ⟨rfl, hbb⟩
        refine hK9.out _ _ ?_ (fun hHeld => ?_)
        · trivial
        clear hK9 K9
        try simp only [Act.put, List.setIfInBounds_toArray, List.set_cons_zero, List.set_cons_succ]
        refine wpAnyH_ready (rs := [4]) (by kernel_rfl) (by simp) ?_
        refine AllReadyH.cons (o := ⟨none, _, _, _, _, _⟩) rfl (fun K9 hK9 => ?_) AllReadyH.nil
        have Ka := (K0.out.below hba).below hbb; have Kb := (K1.out.below hba).below hbb; have Hb := bt (bt HV.out hba) hbb; obtain ⟨⟨x0, x1, x2⟩, f0, f1, f2⟩ := qcells Ka
        go_simp
        clear f0 f1 f2 x0 x1 x2
        refine hK9.out _ _ ?_ (fun hHeld => ?_)
        · trivial
        clear hK9 K9
        try simp only [Act.put]
        refine wpAnyH_ready (rs := [5]) (by kernel_rfl) (by simp) ?_
        refine AllReadyH.cons (o := ⟨none, _, _, _, _, _⟩) rfl (fun K9 hK9 => ?_) AllReadyH.nil
        have Kc := (((Ka.set_ 0 (.slice A1 n1 c1)).set_ 1 (.int .i64 f1)).set_ 2 (.int .i64 m1)); have Kd := (((Kb.far (p := ⟨w.heap.size, 0, none⟩) (by simp) (.slice A1 n1 c1)).far (p := ⟨w.heap.size, 1, none⟩) (by simp) (.int .i64 f1)).far (p := ⟨w.heap.size, 2, none⟩) (by simp) (.int .i64 m1)); obtain ⟨⟨x0, x1, x2⟩, f0, f1, f2⟩ := qcells Kd
        go_simp
        clear f0 f1 f2 x0 x1 x2
        refine hK9.out _ _ ?_ (fun hHeld => ?_)
        · trivial
        clear hK9 K9
        try simp only [Act.put]
        refine wpAnyH_done (by kernel_rfl) ?_ _
        go_wp2_with fail
        go_meet
        exact ⟨rfl, Lib.hid ((((Kc.far (p := ⟨w.heap.size + 1, 0, none⟩) (by simp) (.slice A2 n2 c2)).far (p := ⟨w.heap.size + 1, 1, none⟩) (by simp) (.int .i64 f2)).far (p := ⟨w.heap.size + 1, 2, none⟩) (by simp) (.int .i64 m2))), Lib.hid ((((Kd.set_ 0 (.slice A2 n2 c2)).set_ 1 (.int .i64 f2)).set_ 2 (.int .i64 m2))), Lib.hid ((bs (bs (bs (bs (bs (bs Hb (b := w.heap.size) (o := 0) (by omega) (.slice A1 n1 c1)) (b := w.heap.size) (o := 1) (by omega) (.int .i64 f1)) (b := w.heap.size) (o := 2) (by omega) (.int .i64 m1)) (b := w.heap.size + 1) (o := 0) (by omega) (.slice A2 n2 c2)) (b := w.heap.size + 1) (o := 1) (by omega) (.int .i64 f2)) (b := w.heap.size + 1) (o := 2) (by omega) (.int .i64 m2)))⟩
    refine AllReadyH.cons (o := ⟨some 11, _, _, _, _, _⟩) rfl (fun K9 hK9 => ?_) AllReadyH.nil
    · skip
      first | (have hx := qcells (K1.out.below hba); obtain ⟨⟨x0, x1, x2⟩, _⟩ := hx) | (have hx := qcells K1.out; obtain ⟨⟨x0, x1, x2⟩, _⟩ := hx)
      go_simp
      clear x0 x1 x2
      refine hK9.out _ _ ?_ (fun hHeld => ?_)
      · trivial
      clear hK9 K9
      try simp only [Act.put, List.setIfInBounds_toArray, List.set_cons_zero, List.set_cons_succ]
      refine wpAnyH_ready (rs := [0]) (by kernel_rfl) (by simp) ?_
      refine AllReadyH.cons (o := ⟨some 9, _, _, _, _, _⟩) rfl (fun K9 hK9 => ?_) AllReadyH.nil
      obtain ⟨⟨x0, x1, x2⟩, _⟩ := qcells K0.out
      go_simp
      clear x0 x1 x2
      refine hK9.out _ _ ?_ (fun hHeld => ?_)
      · trivial
      clear hK9 K9
      try simp only [Act.put, List.setIfInBounds_toArray, List.set_cons_zero, List.set_cons_succ]
      refine wpAnyH_ready (rs := [1]) (by kernel_rfl) (by simp) ?_
      refine AllReadyH.cons (o := ⟨some 10, _, _, _, _, _⟩) rfl (fun K9 hK9 => ?_) AllReadyH.nil
      go_simp; go_at_call 6
      refine (HF1.out _).mono ?_
      rintro e wa ⟨rfl, hba⟩
      refine hK9.out _ _ ?_ (fun hHeld => ?_)
      · trivial
      clear hK9 K9
      try simp only [Act.put, List.setIfInBounds_toArray, List.set_cons_zero, List.set_cons_succ]
      refine wpAnyH_ready (rs := [3]) (by kernel_rfl) (by simp) ?_
      refine AllReadyH.cons (o := ⟨some 12, _, _, _, _, _⟩) rfl (fun K9 hK9 => ?_) AllReadyH.nil
      go_simp; go_at_call 6
      refine (HF2.out _).mono ?_
      rintro e wb ⟨rfl, hbb⟩
      refine hK9.out _ _ ?_ (fun hHeld => ?_)
      · trivial
      clear hK9 K9
      try simp only [Act.put, List.setIfInBounds_toArray, List.set_cons_zero, List.set_cons_succ]
      refine wpAnyH_ready (rs := [4]) (by kernel_rfl) (by simp) ?_
      refine AllReadyH.cons (o := ⟨none, _, _, _, _, _⟩) rfl (fun K9 hK9 => ?_) AllReadyH.nil
      have Ka := (K0.out.below hba).below hbb; have Kb := (K1.out.below hba).below hbb; have Hb := bt (bt HV.out hba) hbb; obtain ⟨⟨x0, x1, x2⟩, f0, f1, f2⟩ := qcells Ka
      go_simp
      clear f0 f1 f2 x0 x1 x2
      refine hK9.out _ _ ?_ (fun hHeld => ?_)
      · trivial
      clear hK9 K9
      try simp only [Act.put]
      refine wpAnyH_ready (rs := [5]) (by kernel_rfl) (by simp) ?_
      refine AllReadyH.cons (o := ⟨none, _, _, _, _, _⟩) rfl (fun K9 hK9 => ?_) AllReadyH.nil
      have Kc := (((Ka.set_ 0 (.slice A1 n1 c1)).set_ 1 (.int .i64 f1)).set_ 2 (.int .i64 m1)); have Kd := (((Kb.far (p := ⟨w.heap.size, 0, none⟩) (by simp) (.slice A1 n1 c1)).far (p := ⟨w.heap.size, 1, none⟩) (by simp) (.int .i64 f1)).far (p := ⟨w.heap.size, 2, none⟩) (by simp) (.int .i64 m1)); obtain ⟨⟨x0, x1, x2⟩, f0, f1, f2⟩ := qcells Kd
      go_simp
      clear f0 f1 f2 x0 x1 x2
      refine hK9.out _ _ ?_ (fun hHeld => ?_)
      · trivial
      clear hK9 K9
      try simp only [Act.put]
      refine wpAnyH_done (by kernel_rfl) ?_ _
      go_wp2_with fail
      go_meet
      exact ⟨rfl, Lib.hid ((((Kc.far (p := ⟨w.heap.size + 1, 0, none⟩) (by simp) (.slice A2 n2 c2)).far (p := ⟨w.heap.size + 1, 1, none⟩) (by simp) (.int .i64 f2)).far (p := ⟨w.heap.size + 1, 2, none⟩) (by simp) (.int .i64 m2))), Lib.hid ((((Kd.set_ 0 (.slice A2 n2 c2)).set_ 1 (.int .i64 f2)).set_ 2 (.int .i64 m2))), Lib.hid ((bs (bs (bs (bs (bs (bs Hb (b := w.heap.size) (o := 0) (by omega) (.slice A1 n1 c1)) (b := w.heap.size) (o := 1) (by omega) (.int .i64 f1)) (b := w.heap.size) (o := 2) (by omega) (.int .i64 m1)) (b := w.heap.size + 1) (o := 0) (by omega) (.slice A2 n2 c2)) (b := w.heap.size + 1) (o := 1) (by omega) (.int .i64 f2)) (b := w.heap.size + 1) (o := 2) (by omega) (.int .i64 m2)))⟩
  case rest =>
    obtain ⟨rfl, L0, L1, HW⟩ := hcut
    clear K0 K1 HV HF1 HF2
    go_wp2_with fail
    refine (HNW.out _).mono ?_
    rintro e w3 ⟨A3, rfl, hM3, hb3⟩
    have N0 := Lib.hid (L0.out.below hb3)
    have N1 := Lib.hid (L1.out.below hb3)
    have HB3 := Lib.hid (bt HW.out hb3)
    clear L0 L1 HW
    have M2 := Lib.hid (Blk.new w3 24 (qcs A3 q q 0 0))
    have M0 := Lib.hid (N0.out.alloc (.cells (qcs A3 q q 0 0) 24))
    have M1 := Lib.hid (N1.out.alloc (.cells (qcs A3 q q 0 0) 24))
    have HB4 := Lib.hid (ba HB3.out (.cells (qcs A3 q q 0 0) 24))
    have X4 := Lib.hid (hM3.later (ba (Below.refl w3.heap.size w3) (.cells (qcs A3 q q 0 0) 24)))
    clear hM3
    clear N0 N1 hb3
    go_upto_region 3 with fail
    generalize w3.alloc (.cells (qcs A3 q q 0 0) 24) = w4 at M0 M1 M2 HB4 X4 ⊢
    refine wp_region_held_drew (S := fun W => Below w4.heap.size w4 W) (by kernel_rfl) (Below.refl _ _).drew (fun hHeld => ?_)
    refine wpAnyH_take (i := 0) (oi := ⟨some 18, _, _, _, _, _⟩) (v := qv A1 n1 c1 f1 m1) rfl (by kernel_rfl) (by kernel_rfl) (by kernel_rfl) (fun _ _ _ h => h) (Or.inl ⟨by rfl, ?_⟩) (by assumption) ?_
    · (intro w9 hSw; obtain ⟨⟨x0, x1, x2⟩, _⟩ := qcells (M0.out.below hSw); (try dsimp only at hSw); go_simp)
    try simp only [Act.put, List.setIfInBounds_toArray, List.set_cons_zero, List.set_cons_succ]
    refine wpAnyH_take (i := 2) (oi := ⟨some 20, _, _, _, _, _⟩) (v := qv A1 n1 c1 f1 m1) rfl (by kernel_rfl) (by kernel_rfl) (by kernel_rfl) (fun _ _ _ h => h) (Or.inl ⟨by rfl, ?_⟩) (by assumption) ?_
    · (intro w9 hSw; obtain ⟨⟨x0, x1, x2⟩, _⟩ := qcells (M0.out.below hSw); (try dsimp only at hSw); go_simp)
    try simp only [Act.put, List.setIfInBounds_toArray, List.set_cons_zero, List.set_cons_succ]
    refine wpAnyH_ready (rs := [1]) (by kernel_rfl) (by simp) ?_
    refine AllReadyH.cons (o := ⟨some 19, _, _, _, _, _⟩) rfl (fun K9 hK9 => ?_) AllReadyH.nil
    have hcur : Below w4.heap.size w4 _ := hHeld
    go_simp; go_at_call 8
    refine (HRA.out _ (bt HB4.out hcur)).mono ?_
    rintro e wa ⟨rfl, hba⟩
    refine hK9.out _ _ ?_ (fun hHeld => ?_)
    · first | exact bt hcur hba | exact (bt hcur hba).drew
    clear hK9 K9
    try simp only [Act.put, List.setIfInBounds_toArray, List.set_cons_zero, List.set_cons_succ]
    refine wpAnyH_ready (rs := [3]) (by kernel_rfl) (by simp) ?_
    refine AllReadyH.cons (o := ⟨some 21, _, _, _, _, _⟩) rfl (fun K9 hK9 => ?_) AllReadyH.nil
    have hcur : Below w4.heap.size w4 _ := hHeld
    go_simp; go_at_call 9
    refine (HRB.out _ (bt HB4.out hcur)).mono ?_
    rintro e wb ⟨rfl, hbb⟩
    refine hK9.out _ _ ?_ (fun hHeld => ?_)
    · first | exact bt hcur hbb | exact (bt hcur hbb).drew
    clear hK9 K9
    try simp only [Act.put, List.setIfInBounds_toArray, List.set_cons_zero, List.set_cons_succ]
    refine wpAnyH_take (i := 4) (oi := ⟨some 22, _, _, _, _, _⟩) (v := .bool false) rfl (by kernel_rfl) (by kernel_rfl) (by kernel_rfl) (fun _ _ _ h => h) (Or.inl ⟨by rfl, ?_⟩) (by assumption) ?_
    · (intro w9 hSw; (try dsimp only at hSw); go_simp)
    try simp only [Act.put, List.setIfInBounds_toArray, List.set_cons_zero, List.set_cons_succ]
    refine wpAnyH_take (i := 5) (oi := ⟨some 23, _, _, _, _, _⟩) (v := .bool false) rfl (by kernel_rfl) (by kernel_rfl) (by kernel_rfl) (fun _ _ _ h => h) (Or.inl ⟨by rfl, ?_⟩) (by assumption) ?_
    · (intro w9 hSw; (try dsimp only at hSw); go_simp)
    try simp only [Act.put, List.setIfInBounds_toArray, List.set_cons_zero, List.set_cons_succ]
    refine wpAnyH_take (i := 6) (oi := ⟨some 24, _, _, _, _, _⟩) (v := qv A1 n1 c1 f1 m1) rfl (by kernel_rfl) (by kernel_rfl) (by kernel_rfl) (fun _ _ _ h => h) (Or.inl ⟨by rfl, ?_⟩) (by assumption) ?_
    · (intro w9 hSw; obtain ⟨⟨x0, x1, x2⟩, _⟩ := qcells (M0.out.below hSw); (try dsimp only at hSw); go_simp)
    try simp only [Act.put, List.setIfInBounds_toArray, List.set_cons_zero, List.set_cons_succ]
    refine wpAnyH_take (i := 7) (oi := ⟨some 25, _, _, _, _, _⟩) (v := qv A2 n2 c2 f2 m2) rfl (by kernel_rfl) (by kernel_rfl) (by kernel_rfl) (fun _ _ _ h => h) (Or.inl ⟨by rfl, ?_⟩) (by assumption) ?_
    · (intro w9 hSw; obtain ⟨⟨x0, x1, x2⟩, _⟩ := qcells (M1.out.below hSw); (try dsimp only at hSw); go_simp)
    try simp only [Act.put, List.setIfInBounds_toArray, List.set_cons_zero, List.set_cons_succ]
    refine wpAnyH_take (i := 9) (oi := ⟨some 27, _, _, _, _, _⟩) (v := qv A1 n1 c1 f1 m1) rfl (by kernel_rfl) (by kernel_rfl) (by kernel_rfl) (fun _ _ _ h => h) (Or.inl ⟨by rfl, ?_⟩) (by assumption) ?_
    · (intro w9 hSw; obtain ⟨⟨x0, x1, x2⟩, _⟩ := qcells (M0.out.below hSw); (try dsimp only at hSw); go_simp)
    try simp only [Act.put, List.setIfInBounds_toArray, List.set_cons_zero, List.set_cons_succ]
    refine wpAnyH_take (i := 10) (oi := ⟨some 28, _, _, _, _, _⟩) (v := qv A2 n2 c2 f2 m2) rfl (by kernel_rfl) (by kernel_rfl) (by kernel_rfl) (fun _ _ _ h => h) (Or.inl ⟨by rfl, ?_⟩) (by assumption) ?_
    · (intro w9 hSw; obtain ⟨⟨x0, x1, x2⟩, _⟩ := qcells (M1.out.below hSw); (try dsimp only at hSw); go_simp)
    try simp only [Act.put, List.setIfInBounds_toArray, List.set_cons_zero, List.set_cons_succ]
    refine wpAnyH_ready (rs := [8]) (by kernel_rfl) (by simp) ?_
    refine AllReadyH.cons (o := ⟨some 26, _, _, _, _, _⟩) rfl (fun K9 hK9 => ?_) AllReadyH.nil
    have hcur : Below w4.heap.size w4 _ := hHeld
    go_simp; go_at_call 10
    refine (HLI.out _ (bt HB4.out hcur)).mono ?_
    rintro e wc ⟨rfl, hbc⟩
    refine hK9.out _ _ ?_ (fun hHeld => ?_)
    · first | exact bt hcur hbc | exact (bt hcur hbc).drew
    clear hK9 K9
    try simp only [Act.put, List.setIfInBounds_toArray, List.set_cons_zero, List.set_cons_succ]
    refine wpAnyH_ready (rs := [11]) (by kernel_rfl) (by simp) ?_
    refine AllReadyH.cons (o := ⟨some 29, _, _, _, _, _⟩) rfl (fun K9 hK9 => ?_) AllReadyH.nil
    have hcur : Below w4.heap.size w4 _ := hHeld
    go_simp; go_at_call 11
    refine (HSA.out _ (bt HB4.out hcur)).mono ?_
    rintro e wd ⟨rfl, hbd⟩
    refine hK9.out _ _ ?_ (fun hHeld => ?_)
    · first | exact bt hcur hbd | exact (bt hcur hbd).drew
    clear hK9 K9
    try simp only [Act.put, List.setIfInBounds_toArray, List.set_cons_zero, List.set_cons_succ]
    refine wpAnyH_take (i := 12) (oi := ⟨some 30, _, _, _, _, _⟩) (v := .bool false) rfl (by kernel_rfl) (by kernel_rfl) (by kernel_rfl) (fun _ _ _ h => h) (Or.inl ⟨by rfl, ?_⟩) (by assumption) ?_
    · (intro w9 hSw; (try dsimp only at hSw); go_simp)
    try simp only [Act.put, List.setIfInBounds_toArray, List.set_cons_zero, List.set_cons_succ]
    refine wpAnyH_take (i := 13) (oi := ⟨some 31, _, _, _, _, _⟩) (v := .bool false) rfl (by kernel_rfl) (by kernel_rfl) (by kernel_rfl) (fun _ _ _ h => h) (Or.inl ⟨by rfl, ?_⟩) (by assumption) ?_
    · (intro w9 hSw; (try dsimp only at hSw); go_simp)
    try simp only [Act.put, List.setIfInBounds_toArray, List.set_cons_zero, List.set_cons_succ]
    refine wpAnyH_take (i := 14) (oi := ⟨some 32, _, _, _, _, _⟩) (v := .bool false) rfl (by kernel_rfl) (by kernel_rfl) (by kernel_rfl) (fun _ _ _ h => h) (Or.inl ⟨by rfl, ?_⟩) (by assumption) ?_
    · (intro w9 hSw; (try dsimp only at hSw); go_simp)
    try simp only [Act.put, List.setIfInBounds_toArray, List.set_cons_zero, List.set_cons_succ]
    refine wpAnyH_take (i := 15) (oi := ⟨some 33, _, _, _, _, _⟩) (v := qv A1 n1 c1 f1 m1) rfl (by kernel_rfl) (by kernel_rfl) (by kernel_rfl) (fun _ _ _ h => h) (Or.inl ⟨by rfl, ?_⟩) (by assumption) ?_
    · (intro w9 hSw; obtain ⟨⟨x0, x1, x2⟩, _⟩ := qcells (M0.out.below hSw); (try dsimp only at hSw); go_simp)
    try simp only [Act.put, List.setIfInBounds_toArray, List.set_cons_zero, List.set_cons_succ]
    refine wpAnyH_take (i := 16) (oi := ⟨some 34, _, _, _, _, _⟩) (v := qv A1 n1 c1 f1 m1) rfl (by kernel_rfl) (by kernel_rfl) (by kernel_rfl) (fun _ _ _ h => h) (Or.inl ⟨by rfl, ?_⟩) (by assumption) ?_
    · (intro w9 hSw; obtain ⟨⟨x0, x1, x2⟩, _⟩ := qcells (M0.out.below hSw); (try dsimp only at hSw); go_simp)
    try simp only [Act.put, List.setIfInBounds_toArray, List.set_cons_zero, List.set_cons_succ]
    refine wpAnyH_ready (rs := [17]) (by kernel_rfl) (by simp) ?_
    refine AllReadyH.cons (o := ⟨some 35, _, _, _, _, _⟩) rfl (fun K9 hK9 => ?_) AllReadyH.nil
    have hcur : Below w4.heap.size w4 _ := hHeld
    go_simp; go_at_call 10
    refine (HLA.out _ (bt HB4.out hcur)).mono ?_
    rintro e we ⟨rfl, hbe⟩
    refine hK9.out _ _ ?_ (fun hHeld => ?_)
    · first | exact bt hcur hbe | exact (bt hcur hbe).drew
    clear hK9 K9
    try simp only [Act.put, List.setIfInBounds_toArray, List.set_cons_zero, List.set_cons_succ]
    refine wpAnyH_take (i := 18) (oi := ⟨some 36, _, _, _, _, _⟩) (v := .bool false) rfl (by kernel_rfl) (by kernel_rfl) (by kernel_rfl) (fun _ _ _ h => h) (Or.inl ⟨by rfl, ?_⟩) (by assumption) ?_
    · (intro w9 hSw; (try dsimp only at hSw); go_simp)
    try simp only [Act.put, List.setIfInBounds_toArray, List.set_cons_zero, List.set_cons_succ]
    refine wpAnyH_take (i := 19) (oi := ⟨some 37, _, _, _, _, _⟩) (v := .bool false) rfl (by kernel_rfl) (by kernel_rfl) (by kernel_rfl) (fun _ _ _ h => h) (Or.inl ⟨by rfl, ?_⟩) (by assumption) ?_
    · (intro w9 hSw; (try dsimp only at hSw); go_simp)
    try simp only [Act.put, List.setIfInBounds_toArray, List.set_cons_zero, List.set_cons_succ]
    refine wpAnyH_take (i := 20) (oi := ⟨some 38, _, _, _, _, _⟩) (v := .bool false) rfl (by kernel_rfl) (by kernel_rfl) (by kernel_rfl) (fun _ _ _ h => h) (Or.inl ⟨by rfl, ?_⟩) (by assumption) ?_
    · (intro w9 hSw; (try dsimp only at hSw); go_simp)
    try simp only [Act.put, List.setIfInBounds_toArray, List.set_cons_zero, List.set_cons_succ]
    refine wpAnyH_ready (rs := [21]) (by kernel_rfl) (by simp) ?_
    refine AllReadyH.cons (o := ⟨some 39, _, _, _, _, _⟩) rfl (fun K9 hK9 => ?_) AllReadyH.nil
    have hcur : Below w4.heap.size w4 _ := hHeld
    go_simp; go_at_call 12
    refine (HAL.out _).mono ?_
    rintro e wf ⟨rfl, hbf⟩
    refine hK9.out _ _ ?_ (fun hHeld => ?_)
    · first | exact bt hcur hbf | exact (bt hcur hbf).drew
    clear hK9 K9
    try simp only [Act.put, List.setIfInBounds_toArray, List.set_cons_zero, List.set_cons_succ]
    refine wpAnyH_take (i := 22) (oi := ⟨some 40, _, _, _, _, _⟩) (v := .bool false) rfl (by kernel_rfl) (by kernel_rfl) (by kernel_rfl) (fun _ _ _ h => h) (Or.inl ⟨by rfl, ?_⟩) (by assumption) ?_
    · (intro w9 hSw; (try dsimp only at hSw); go_simp)
    try simp only [Act.put, List.setIfInBounds_toArray, List.set_cons_zero, List.set_cons_succ]
    refine wpAnyH_take (i := 23) (oi := ⟨some 41, _, _, _, _, _⟩) (v := .bool false) rfl (by kernel_rfl) (by kernel_rfl) (by kernel_rfl) (fun _ _ _ h => h) (Or.inl ⟨by rfl, ?_⟩) (by assumption) ?_
    · (intro w9 hSw; (try dsimp only at hSw); go_simp)
    try simp only [Act.put, List.setIfInBounds_toArray, List.set_cons_zero, List.set_cons_succ]
    refine wpAnyH_done (by kernel_rfl) ?_ _
    have hfin : Below w4.heap.size w4 _ := hHeld
    have HB5 := Lib.hid (bt HB4.out hfin)
    have M3 := Lib.hid (M2.out.below hfin)
    have HF4 := Lib.hid hfin
    obtain ⟨⟨x0, x1, x2⟩, _⟩ := qcells M3.out
    clear hfin hHeld HRA HRB HLI HSA HLA HAL M0 M1
    have X5 := Lib.hid (X4.out.later HF4.out)
    clear HNW X4 x0 x1 x2
    go_upto_region 7 with fail
    refine wp_region_held_drew (S := fun W => Below wf.heap.size wf W) (by kernel_rfl) (Below.refl _ _).drew (fun hHeld => ?_)
    refine wpAnyH_take (i := 0) (oi := ⟨some 55, _, _, _, _, _⟩) (v := .int .i64 0) rfl (by kernel_rfl) (by kernel_rfl) (by kernel_rfl) (fun _ _ _ h => h) (Or.inl ⟨by rfl, ?_⟩) (by assumption) ?_
    · (intro w9 hSw; (try dsimp only at hSw); go_simp)
    try simp only [Act.put, List.setIfInBounds_toArray, List.set_cons_zero, List.set_cons_succ]
    refine wpAnyH_take (i := 1) (oi := ⟨some 56, _, _, _, _, _⟩) (v := .bool true) rfl (by kernel_rfl) (by kernel_rfl) (by kernel_rfl) (fun _ _ _ h => h) (Or.inl ⟨by rfl, ?_⟩) (by assumption) ?_
    · (intro w9 hSw; (try dsimp only at hSw); go_simp)
    try simp only [Act.put, List.setIfInBounds_toArray, List.set_cons_zero, List.set_cons_succ]
    refine wpAnyH_take (i := 2) (oi := ⟨some 57, _, _, _, _, _⟩) (v := .bool true) rfl (by kernel_rfl) (by kernel_rfl) (by kernel_rfl) (fun _ _ _ h => h) (Or.inl ⟨by rfl, ?_⟩) (by assumption) ?_
    · (intro w9 hSw; (try dsimp only at hSw); go_simp)
    try simp only [Act.put, List.setIfInBounds_toArray, List.set_cons_zero, List.set_cons_succ]
    refine wpAnyH_take (i := 3) (oi := ⟨some 58, _, _, _, _, _⟩) (v := qv A3 q q 0 0) rfl (by kernel_rfl) (by kernel_rfl) (by kernel_rfl) (fun _ _ _ h => h) (Or.inl ⟨by rfl, ?_⟩) (by assumption) ?_
    · (intro w9 hSw; obtain ⟨⟨x0, x1, x2⟩, _⟩ := qcells (M3.out.below hSw); (try dsimp only at hSw); go_simp)
    try simp only [Act.put, List.setIfInBounds_toArray, List.set_cons_zero, List.set_cons_succ]
    refine wpAnyH_take (i := 4) (oi := ⟨some 59, _, _, _, _, _⟩) (v := .int .i64 (q : Int)) rfl (by kernel_rfl) (by kernel_rfl) (by kernel_rfl) (fun _ _ _ h => h) (Or.inl ⟨by rfl, ?_⟩) (by assumption) ?_
    · (intro w9 hSw; (try dsimp only at hSw); go_simp)
    try simp only [Act.put, List.setIfInBounds_toArray, List.set_cons_zero, List.set_cons_succ]
    refine wpAnyH_ready (rs := [5]) (by kernel_rfl) (by simp) ?_
    refine AllReadyH.cons (o := ⟨some 60, _, _, _, _, _⟩) rfl (fun K9 hK9 => ?_) AllReadyH.nil
    have hcur : Below wf.heap.size wf _ := hHeld; have HX7 := Lib.hid (And.intro (X5.out.later (ba hcur (.cells (Array.replicate q (sv [])) 9))) (qmade_qm (Blk.new wf.drew 9 (Array.replicate q (sv []))) (by omega))); have hcur2 := ba hcur (.cells (Array.replicate q (sv [])) 9); have e1 := qmake_strs q (by omega)
    go_simp
    clear e1
    refine hK9.out _ _ ?_ (fun hHeld => ?_)
    · exact hcur2
    clear hK9 K9
    try simp only [Act.put, List.setIfInBounds_toArray, List.set_cons_zero, List.set_cons_succ]
    refine wpAnyH_take (i := 6) (oi := ⟨some 61, _, _, _, _, _⟩) (v := ?_) rfl (by kernel_rfl) (by kernel_rfl) (by kernel_rfl) (fun _ _ _ h => h) (Or.inl ⟨by rfl, ?_⟩) (by assumption) ?_
    rotate_left
    · (intro w9 hSw; (try dsimp only at hSw); go_simp; try with_reducible rfl)
    try simp only [Act.put, List.setIfInBounds_toArray, List.set_cons_zero, List.set_cons_succ]
    refine wpAnyH_ready (rs := [7]) (by kernel_rfl) (by simp) ?_
    refine AllReadyH.cons (o := ⟨some 62, _, _, _, _, _⟩) rfl (fun K9 hK9 => ?_) AllReadyH.nil
    have hcu2 : Below wf.heap.size wf _ := hHeld
    go_simp; go_at_call 11
    refine (HSM.out _ _ _ _ _ HX7.out.1 HX7.out.2).mono ?_
    rintro e wh ⟨rfl, hbh⟩
    refine hK9.out _ _ ?_ (fun hHeld => ?_)
    · first | exact bt hcu2 hbh | exact (bt hcu2 hbh).drew
    clear hK9 K9
    try simp only [Act.put, List.setIfInBounds_toArray, List.set_cons_zero, List.set_cons_succ]
    refine wpAnyH_take (i := 8) (oi := ⟨some 63, _, _, _, _, _⟩) (v := .bool true) rfl (by kernel_rfl) (by kernel_rfl) (by kernel_rfl) (fun _ _ _ h => h) (Or.inl ⟨by rfl, ?_⟩) (by assumption) ?_
    · (intro w9 hSw; (try dsimp only at hSw); go_simp)
    try simp only [Act.put, List.setIfInBounds_toArray, List.set_cons_zero, List.set_cons_succ]
    refine wpAnyH_take (i := 9) (oi := ⟨some 6, _, _, _, _, _⟩) (v := ?_) rfl (by kernel_rfl) (by kernel_rfl) (by kernel_rfl) (fun _ _ _ h => h) (Or.inl ⟨by rfl, ?_⟩) (by assumption) ?_
    rotate_left
    · (intro w9 hSw; (try dsimp only at hSw); go_simp; try with_reducible rfl)
    try simp only [Act.put, List.setIfInBounds_toArray, List.set_cons_zero, List.set_cons_succ]
    refine wpAnyH_done (by kernel_rfl) ?_ _
    have hfin : Below wf.heap.size wf _ := hHeld
    have hB9 := bt HB5.out hfin
    clear hfin hHeld
    go_wp2
    go_ret
    exact ⟨rfl, hB9⟩
end Go.Proofs.Ytnehodipblabbaa
