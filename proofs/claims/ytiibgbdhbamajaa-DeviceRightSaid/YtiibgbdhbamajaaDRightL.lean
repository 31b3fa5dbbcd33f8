/- DeviceRight is true of every two devices and every number, and leaves them as they were. -/
import Derived.Test.YtiibgbdhbamajaaDLawA
import Derived.Test.YtiibgbdhbamajaaDOpen
import Derived.Test.YtiibgbdhbamajaaDRef
import Derived.Deep.DeepCutAuto
import Derived.Deep.CutRange
namespace Go.Proofs.Ytiibgbdhbamajaa
open Go.ChangeShapes Go.WideShapes Go.ChangeAt Go.RowKit Go.Joins Go.Deep

set_option maxRecDepth 100000 in
set_option maxHeartbeats 8000000 in
theorem dright_no (A1 B1 A2 B2 : Option Addr) (ca1 cb1 ca2 cb2 n01 m01 n02 m02 n1 m1 n2 m2 : Nat) (S1 S2 : List (List UInt8)) (C1 C2 : List PutL) (k : Int) (w : World) (hA1 : SR w A1 S1) (hB1 : PR w B1 C1) (hA2 : SR w A2 S2) (hB2 : PR w B2 C2) (hn1 : S1.length = n1) (hm1 : C1.length = m1) (hn2 : S2.length = n2) (hm2 : C2.length = m2) (hn01 : min n01 70 = n1) (hm01 : min m01 65 = m1) (hn02 : min n02 70 = n2) (hm02 : min m02 65 = m2) (hca1 : n01 ≤ ca1) (hcb1 : m01 ≤ cb1) (hca2 : n02 ≤ ca2) (hcb2 : m02 ≤ cb2) (hk : ¬ (1 ≤ k ∧ k ≤ 64)) :
    Calls Try.prog 3 #[dv A1 n01 ca1 B1 m01 cb1, dv A2 n02 ca2 B2 m02 cb2, .int .i64 k] w fun e w' => e = .returned (.bool true) ∧ Below w.heap.size w w' := by
  have HF1 := Lib.hid (fun W => few_any A1 B1 ca1 cb1 n01 m01 W hca1 hcb1)
  rw [hn01, hm01] at HF1
  have HF2 := Lib.hid (fun W => few_any A2 B2 ca2 cb2 n02 m02 W hca2 hcb2)
  rw [hn02, hm02] at HF2
  have HRA := Lib.hid (fun W (hb : Below w.heap.size w W) => right_any A1 B1 ca1 cb1 n1 m1 S1 C1 W (hA1.later hb) (hB1.later hb) hn1 hm1)
  have HRB := Lib.hid (fun W (hb : Below w.heap.size w W) => rright_any A1 B1 ca1 cb1 n1 m1 S1 C1 W (hA1.later hb) (hB1.later hb) hn1 hm1)
  have HLI := Lib.hid (fun W (hb : Below w.heap.size w W) => like_any A1 A2 B1 B2 ca1 ca2 cb1 cb2 n1 n2 m1 m2 S1 S2 C1 C2 W (hA1.later hb) (hA2.later hb) (hB1.later hb) (hB2.later hb) hn1 hn2 hm1 hm2 (by omega) (by omega) (by omega) (by omega))
  have HSA := Lib.hid (fun W (hb : Below w.heap.size w W) => dsame_any A1 A2 B1 B2 ca1 ca2 cb1 cb2 n1 n2 m1 m2 S1 S2 C1 C2 W (hA1.later hb) (hA2.later hb) (hB1.later hb) (hB2.later hb) hn1 hn2 hm1 hm2 (by omega) (by omega))
  have HLA : Hid (∀ W, Below w.heap.size w W → Calls Try.prog 11 #[dv A1 n1 ca1 B1 m1 cb1, dv A1 n1 ca1 B1 m1 cb1] W fun e w' => e = .returned (.bool true) ∧ Below W.heap.size W w') := Lib.hid (fun W hb => by
    have := like_any A1 A1 B1 B1 ca1 ca1 cb1 cb1 n1 n1 m1 m1 S1 S1 C1 C1 W (hA1.later hb) (hA1.later hb) (hB1.later hb) (hB1.later hb) hn1 hn1 hm1 hm1 (by omega) (by omega) (by omega) (by omega)
    simpa using this)
  have HAL := Lib.hid alive_any
  generalize rightB S1 C1 = R1 at HRA HRB
  generalize decide (S1 = S2 ∧ C1 = C2) = R2 at HLI HSA
  clear hA1 hB1 hA2 hB2 hn1 hm1 hn2 hm2 hn01 hm01 hn02 hm02 hca1 hcb1 hca2 hcb2
  have v0 : Blk ((w.alloc (.cells #[.slice A1 n01 ca1, .slice B1 m01 cb1] 25)).alloc (.cells #[.slice A2 n02 ca2, .slice B2 m02 cb2] 25)) w.heap.size 25 #[.slice A1 n01 ca1, .slice B1 m01 cb1] := (Blk.new w _ _).alloc _
  have v1 : Blk ((w.alloc (.cells #[.slice A1 n01 ca1, .slice B1 m01 cb1] 25)).alloc (.cells #[.slice A2 n02 ca2, .slice B2 m02 cb2] 25)) (w.heap.size + 1) 25 #[.slice A2 n02 ca2, .slice B2 m02 cb2] := Blk.newAt (by simp) _ _
  have hV : Below w.heap.size w ((w.alloc (.cells #[.slice A1 n01 ca1, .slice B1 m01 cb1] 25)).alloc (.cells #[.slice A2 n02 ca2, .slice B2 m02 cb2] 25)) := ba (ba (Below.refl _ _) _) _
  have HNW := Lib.hid (fun W => new_no k W hk)
  have HSM := Lib.hid (fun W => dsame_any none none none none 0 0 0 0 0 0 0 0 [] [] [] [] W (SR.nil _ _) (SR.nil _ _) (PR.nil _ _) (PR.nil _ _) rfl rfl rfl rfl (by omega) (by omega))
  go_enter Try.func3, Try.ntmps3
  go_upto_region 1 with fail
  generalize (w.alloc (.cells #[.slice A1 n01 ca1, .slice B1 m01 cb1] 25)).alloc (.cells #[.slice A2 n02 ca2, .slice B2 m02 cb2] 25) = w1 at v0 v1 hV ⊢
  have K0 := Lib.hid v0.drew
  have K1 := Lib.hid v1.drew
  have HV := Lib.hid hV.drew
  clear v0 v1 hV
  go_cut [13] from 9 to 14 (fun s13 wx => s13 = undef ∧ Hid (Blk wx w.heap.size 25 #[.slice A1 n1 ca1, .slice B1 m1 cb1]) ∧ Hid (Blk wx (w.heap.size + 1) 25 #[.slice A2 n2 ca2, .slice B2 m2 cb2]) ∧ Hid (Below w.heap.size w wx))
  case first =>
    refine wp_region_held_drew (S := fun _ => True) (by kernel_rfl) trivial (fun hHeld => ?_)
    refine wpAnyH_ready (rs := [0, 2]) (by kernel_rfl) (by simp) ?_
    refine AllReadyH.cons (o := ⟨some 9, _, _, _, _, _⟩) rfl (fun K9 hK9 => ?_) ?_
    · skip
      obtain ⟨x0, x1, _, _⟩ := dcells K0.out
      go_simp
      clear x0 x1
      refine hK9.out _ _ ?_ (fun hHeld => ?_)
      · trivial
      clear hK9 K9
      try simp only [Act.put, List.setIfInBounds_toArray, List.set_cons_zero, List.set_cons_succ]
      refine wpAnyH_ready (rs := [1, 2]) (by kernel_rfl) (by simp) ?_
      refine AllReadyH.cons (o := ⟨some 10, _, _, _, _, _⟩) rfl (fun K9 hK9 => ?_) ?_
      · skip
        go_simp; go_at_call 7
        refine (HF1.out _).mono ?_
        rintro e wa ⟨rfl, hba⟩
        refine hK9.out _ _ ?_ (fun hHeld => ?_)
        · trivial
        clear hK9 K9
        try simp only [Act.put, List.setIfInBounds_toArray, List.set_cons_zero, List.set_cons_succ]
        refine wpAnyH_ready (rs := [2]) (by kernel_rfl) (by simp) ?_
        refine AllReadyH.cons (o := ⟨some 11, _, _, _, _, _⟩) rfl (fun K9 hK9 => ?_) AllReadyH.nil
        first | (have hx := dcells (K1.out.below hba); obtain ⟨x0, x1, _, _⟩ := hx) | (have hx := dcells K1.out; obtain ⟨x0, x1, _, _⟩ := hx)
        go_simp
        clear x0 x1
        refine hK9.out _ _ ?_ (fun hHeld => ?_)
        · trivial
        clear hK9 K9
        try simp only [Act.put, List.setIfInBounds_toArray, List.set_cons_zero, List.set_cons_succ]
        refine wpAnyH_ready (rs := [3]) (by kernel_rfl) (by simp) ?_
        refine AllReadyH.cons (o := ⟨some 12, _, _, _, _, _⟩) rfl (fun K9 hK9 => ?_) AllReadyH.nil
        go_simp; go_at_call 7
        refine (HF2.out _).mono ?_
        rintro e wb ⟨rfl, hbb⟩
        refine hK9.out _ _ ?_ (fun hHeld => ?_)
        · trivial
        clear hK9 K9
        try simp only [Act.put, List.setIfInBounds_toArray, List.set_cons_zero, List.set_cons_succ]
        refine wpAnyH_ready (rs := [4]) (by kernel_rfl) (by simp) ?_
        refine AllReadyH.cons (o := ⟨none, _, _, _, _, _⟩) rfl (fun K9 hK9 => ?_) AllReadyH.nil
        have Ka := (K0.out.below hba).below hbb; have Kb := (K1.out.below hba).below hbb; have Hb := bt (bt HV.out hba) hbb; obtain ⟨_, _, f0, f1⟩ := dcells Ka; obtain ⟨x0, x1, _, _⟩ := dcells Ka
        go_simp
        clear f0 f1 x0 x1
        refine hK9.out _ _ ?_ (fun hHeld => ?_)
        · trivial
        clear hK9 K9
        try simp only [Act.put]
        refine wpAnyH_ready (rs := [5]) (by kernel_rfl) (by simp) ?_
        refine AllReadyH.cons (o := ⟨none, _, _, _, _, _⟩) rfl (fun K9 hK9 => ?_) AllReadyH.nil
        have Kc := (Ka.set_ 0 (.slice A1 n1 ca1)).set_ 1 (.slice B1 m1 cb1); have Kd := (Kb.far (p := ⟨w.heap.size, 0, none⟩) (by simp) (.slice A1 n1 ca1)).far (p := ⟨w.heap.size, 1, none⟩) (by simp) (.slice B1 m1 cb1); obtain ⟨_, _, f0, f1⟩ := dcells Kd; obtain ⟨x0, x1, _, _⟩ := dcells Kd
        go_simp
        clear f0 f1 x0 x1
        refine hK9.out _ _ ?_ (fun hHeld => ?_)
        · trivial
        clear hK9 K9
        try simp only [Act.put]
        refine wpAnyH_done (by kernel_rfl) ?_ _
        go_wp2_with fail
        go_meet
        exact ⟨rfl, Lib.hid (((Kc.far (p := ⟨w.heap.size + 1, 0, none⟩) (by simp) (.slice A2 n2 ca2)).far (p := ⟨w.heap.size + 1, 1, none⟩) (by simp) (.slice B2 m2 cb2))), Lib.hid (((Kd.set_ 0 (.slice A2 n2 ca2)).set_ 1 (.slice B2 m2 cb2))), Lib.hid ((bs (bs (bs (bs Hb (b := w.heap.size) (o := 0) (by omega) (.slice A1 n1 ca1)) (b := w.heap.size) (o := 1) (by omega) (.slice B1 m1 cb1)) (b := w.heap.size + 1) (o := 0) (by omega) (.slice A2 n2 ca2)) (b := w.heap.size + 1) (o := 1) (by omega) (.slice B2 m2 cb2)))⟩
      refine AllReadyH.cons (o := ⟨some 11, _, _, _, _, _⟩) rfl (fun K9 hK9 => ?_) AllReadyH.nil
      · skip
        first | (have hx := dcells (K1.out.below hba); obtain ⟨x0, x1, _, _⟩ := hx) | (have hx := dcells K1.out; obtain ⟨x0, x1, _, _⟩ := hx)
        go_simp
        clear x0 x1
        refine hK9.out _ _ ?_ (fun hHeld => ?_)
        · trivial
        clear hK9 K9
        try simp only [Act.put, List.setIfInBounds_toArray, List.set_cons_zero, List.set_cons_succ]
        refine wpAnyH_ready (rs := [1]) (by kernel_rfl) (by simp) ?_
        refine AllReadyH.cons (o := ⟨some 10, _, _, _, _, _⟩) rfl (fun K9 hK9 => ?_) AllReadyH.nil
        go_simp; go_at_call 7
        refine (HF1.out _).mono ?_
        rintro e wa ⟨rfl, hba⟩
        refine hK9.out _ _ ?_ (fun hHeld => ?_)
        · trivial
        clear hK9 K9
        try simp only [Act.put, List.setIfInBounds_toArray, List.set_cons_zero, List.set_cons_succ]
        refine wpAnyH_ready (rs := [3]) (by kernel_rfl) (by simp) ?_
        refine AllReadyH.cons (o := ⟨some 12, _, _, _, _, _⟩) rfl (fun K9 hK9 => ?_) AllReadyH.nil
        go_simp; go_at_call 7
        refine (HF2.out _).mono ?_
        rintro e wb ⟨rfl, hbb⟩
        refine hK9.out _ _ ?_ (fun hHeld => ?_)
        · trivial
        clear hK9 K9
        try simp only [Act.put, List.setIfInBounds_toArray, List.set_cons_zero, List.set_cons_succ]
        refine wpAnyH_ready (rs := [4]) (by kernel_rfl) (by simp) ?_
        refine AllReadyH.cons (o := ⟨none, _, _, _, _, _⟩) rfl (fun K9 hK9 => ?_) AllReadyH.nil
        have Ka := (K0.out.below hba).below hbb; have Kb := (K1.out.below hba).below hbb; have Hb := bt (bt HV.out hba) hbb; obtain ⟨_, _, f0, f1⟩ := dcells Ka; obtain ⟨x0, x1, _, _⟩ := dcells Ka
        go_simp
        clear f0 f1 x0 x1
        refine hK9.out _ _ ?_ (fun hHeld => ?_)
        · trivial
        clear hK9 K9
        try simp only [Act.put]
        refine wpAnyH_ready (rs := [5]) (by kernel_rfl) (by simp) ?_
        refine AllReadyH.cons (o := ⟨none, _, _, _, _, _⟩) rfl (fun K9 hK9 => ?_) AllReadyH.nil
        have Kc := (Ka.set_ 0 (.slice A1 n1 ca1)).set_ 1 (.slice B1 m1 cb1); have Kd := (Kb.far (p := ⟨w.heap.size, 0, none⟩) (by simp) (.slice A1 n1 ca1)).far (p := ⟨w.heap.size, 1, none⟩) (by simp) (.slice B1 m1 cb1); obtain ⟨_, _, f0, f1⟩ := dcells Kd; obtain ⟨x0, x1, _, _⟩ := dcells Kd
        go_simp
        clear f0 f1 x0 x1
        refine hK9.out _ _ ?_ (fun hHeld => ?_)
        · trivial
        clear hK9 K9
        try simp only [Act.put]
        refine wpAnyH_done (by kernel_rfl) ?_ _
        go_wp2_with fail
        go_meet
        exact ⟨rfl, Lib.hid (((Kc.far (p := ⟨w.heap.size + 1, 0, none⟩) (by simp) (.slice A2 n2 ca2)).far (p := ⟨w.heap.size + 1, 1, none⟩) (by simp) (.slice B2 m2 cb2))), Lib.hid (((Kd.set_ 0 (.slice A2 n2 ca2)).set_ 1 (.slice B2 m2 cb2))), Lib.hid ((bs (bs (bs (bs Hb (b := w.heap.size) (o := 0) (by omega) (.slice A1 n1 ca1)) (b := w.heap.size) (o := 1) (by omega) (.slice B1 m1 cb1)) (b := w.heap.size + 1) (o := 0) (by omega) (.slice A2 n2 ca2)) (b := w.heap.size + 1) (o := 1) (by omega) (.slice B2 m2 cb2)))⟩
    refine AllReadyH.cons (o := ⟨some 11, _, _, _, _, _⟩) rfl (fun K9 hK9 => ?_) AllReadyH.nil
    · skip
      first | (have hx := dcells (K1.out.below hba); obtain ⟨x0, x1, _, _⟩ := hx) | (have hx := dcells K1.out; obtain ⟨x0, x1, _, _⟩ := hx)
      go_simp
      clear x0 x1
      refine hK9.out _ _ ?_ (fun hHeld => ?_)
      · trivial
      clear hK9 K9
      try simp only [Act.put, List.setIfInBounds_toArray, List.set_cons_zero, List.set_cons_succ]
      refine wpAnyH_ready (rs := [0]) (by kernel_rfl) (by simp) ?_
      refine AllReadyH.cons (o := ⟨some 9, _, _, _, _, _⟩) rfl (fun K9 hK9 => ?_) AllReadyH.nil
      obtain ⟨x0, x1, _, _⟩ := dcells K0.out
      go_simp
      clear x0 x1
      refine hK9.out _ _ ?_ (fun hHeld => ?_)
      · trivial
      clear hK9 K9
      try simp only [Act.put, List.setIfInBounds_toArray, List.set_cons_zero, List.set_cons_succ]
      refine wpAnyH_ready (rs := [1]) (by kernel_rfl) (by simp) ?_
      refine AllReadyH.cons (o := ⟨some 10, _, _, _, _, _⟩) rfl (fun K9 hK9 => ?_) AllReadyH.nil
      go_simp; go_at_call 7
      refine (HF1.out _).mono ?_
      rintro e wa ⟨rfl, hba⟩
      refine hK9.out _ _ ?_ (fun hHeld => ?_)
      · trivial
      clear hK9 K9
      try simp only [Act.put, List.setIfInBounds_toArray, List.set_cons_zero, List.set_cons_succ]
      refine wpAnyH_ready (rs := [3]) (by kernel_rfl) (by simp) ?_
      refine AllReadyH.cons (o := ⟨some 12, _, _, _, _, _⟩) rfl (fun K9 hK9 => ?_) AllReadyH.nil
      go_simp; go_at_call 7
      refine (HF2.out _).mono ?_
      rintro e wb ⟨rfl, hbb⟩
      refine hK9.out _ _ ?_ (fun hHeld => ?_)
      · trivial
      clear hK9 K9
      try simp only [Act.put, List.setIfInBounds_toArray, List.set_cons_zero, List.set_cons_succ]
      refine wpAnyH_ready (rs := [4]) (by kernel_rfl) (by simp) ?_
      refine AllReadyH.cons (o := ⟨none, _, _, _, _, _⟩) rfl (fun K9 hK9 => ?_) AllReadyH.nil
      have Ka := (K0.out.below hba).below hbb; have Kb := (K1.out.below hba).below hbb; have Hb := bt (bt HV.out hba) hbb; obtain ⟨_, _, f0, f1⟩ := dcells Ka; obtain ⟨x0, x1, _, _⟩ := dcells Ka
      go_simp
      clear f0 f1 x0 x1
      refine hK9.out _ _ ?_ (fun hHeld => ?_)
      · trivial
      clear hK9 K9
      try simp only [Act.put]
      refine wpAnyH_ready (rs := [5]) (by kernel_rfl) (by simp) ?_
      refine AllReadyH.cons (o := ⟨none, _, _, _, _, _⟩) rfl (fun K9 hK9 => ?_) AllReadyH.nil
      have Kc := (Ka.set_ 0 (.slice A1 n1 ca1)).set_ 1 (.slice B1 m1 cb1); have Kd := (Kb.far (p := ⟨w.heap.size, 0, none⟩) (by simp) (.slice A1 n1 ca1)).far (p := ⟨w.heap.size, 1, none⟩) (by simp) (.slice B1 m1 cb1); obtain ⟨_, _, f0, f1⟩ := dcells Kd; obtain ⟨x0, x1, _, _⟩ := dcells Kd
      go_simp
      clear f0 f1 x0 x1
      refine hK9.out _ _ ?_ (fun hHeld => ?_)
      · trivial
      clear hK9 K9
      try simp only [Act.put]
      refine wpAnyH_done (by kernel_rfl) ?_ _
      go_wp2_with fail
      go_meet
      exact ⟨rfl, Lib.hid (((Kc.far (p := ⟨w.heap.size + 1, 0, none⟩) (by simp) (.slice A2 n2 ca2)).far (p := ⟨w.heap.size + 1, 1, none⟩) (by simp) (.slice B2 m2 cb2))), Lib.hid (((Kd.set_ 0 (.slice A2 n2 ca2)).set_ 1 (.slice B2 m2 cb2))), Lib.hid ((bs (bs (bs (bs Hb (b := w.heap.size) (o := 0) (by omega) (.slice A1 n1 ca1)) (b := w.heap.size) (o := 1) (by omega) (.slice B1 m1 cb1)) (b := w.heap.size + 1) (o := 0) (by omega) (.slice A2 n2 ca2)) (b := w.heap.size + 1) (o := 1) (by omega) (.slice B2 m2 cb2)))⟩
  case rest =>
    obtain ⟨rfl, L0, L1, HW⟩ := hcut
    clear K0 K1 HV HF1 HF2
    go_wp2_with fail
    refine (HNW.out _).mono ?_
    rintro e w3 ⟨rfl, hb3⟩
    have N0 := Lib.hid (L0.out.below hb3)
    have N1 := Lib.hid (L1.out.below hb3)
    have HB3 := Lib.hid (bt HW.out hb3)
    clear L0 L1 HW hb3
    have M2 := Lib.hid (Blk.new w3 25 #[.slice none 0 0, .slice none 0 0])
    have M0 := Lib.hid (N0.out.alloc (.cells #[.slice none 0 0, .slice none 0 0] 25))
    have M1 := Lib.hid (N1.out.alloc (.cells #[.slice none 0 0, .slice none 0 0] 25))
    have HB4 := Lib.hid (ba HB3.out (.cells #[.slice none 0 0, .slice none 0 0] 25))
    clear N0 N1
    go_upto_region 3 with fail
    generalize hw4 : w3.alloc (.cells #[.slice none 0 0, .slice none 0 0] 25) = w4 at M0 M1 M2 HB4 ⊢
    refine wp_region_held_drew (S := fun W => Below w4.heap.size w4 W) (by kernel_rfl) (Below.refl _ _).drew (fun hHeld => ?_)
    refine wpAnyH_take (i := 0) (oi := ⟨some 18, _, _, _, _, _⟩) (v := dv A1 n1 ca1 B1 m1 cb1) rfl (by kernel_rfl) (by kernel_rfl) (by kernel_rfl) (fun _ _ _ h => h) (Or.inl ⟨by rfl, ?_⟩) (by assumption) ?_
    · (intro w9 hSw; obtain ⟨x0, x1, _, _⟩ := dcells (M0.out.below hSw); (try dsimp only at hSw); go_simp)
    try simp only [Act.put, List.setIfInBounds_toArray, List.set_cons_zero, List.set_cons_succ]
    refine wpAnyH_take (i := 2) (oi := ⟨some 20, _, _, _, _, _⟩) (v := dv A1 n1 ca1 B1 m1 cb1) rfl (by kernel_rfl) (by kernel_rfl) (by kernel_rfl) (fun _ _ _ h => h) (Or.inl ⟨by rfl, ?_⟩) (by assumption) ?_
    · (intro w9 hSw; obtain ⟨x0, x1, _, _⟩ := dcells (M0.out.below hSw); (try dsimp only at hSw); go_simp)
    try simp only [Act.put, List.setIfInBounds_toArray, List.set_cons_zero, List.set_cons_succ]
    refine wpAnyH_ready (rs := [1]) (by kernel_rfl) (by simp) ?_
    refine AllReadyH.cons (o := ⟨some 19, _, _, _, _, _⟩) rfl (fun K9 hK9 => ?_) AllReadyH.nil
    have hcur : Below w4.heap.size w4 _ := hHeld
    go_simp; go_at_call 9
    refine (HRA.out _ (bt HB4.out hcur)).mono ?_
    rintro e wa ⟨rfl, hba⟩
    refine hK9.out _ _ ?_ (fun hHeld => ?_)
    · first | exact bt hcur hba | exact (bt hcur hba).drew
    clear hK9 K9
    try simp only [Act.put, List.setIfInBounds_toArray, List.set_cons_zero, List.set_cons_succ]
    refine wpAnyH_ready (rs := [3]) (by kernel_rfl) (by simp) ?_
    refine AllReadyH.cons (o := ⟨some 21, _, _, _, _, _⟩) rfl (fun K9 hK9 => ?_) AllReadyH.nil
    have hcur : Below w4.heap.size w4 _ := hHeld
    go_simp; go_at_call 10
    refine (HRB.out _ (bt HB4.out hcur)).mono ?_
    rintro e wb ⟨rfl, hbb⟩
    refine hK9.out _ _ ?_ (fun hHeld => ?_)
    · first | exact bt hcur hbb | exact (bt hcur hbb).drew
    clear hK9 K9
    try simp only [Act.put, List.setIfInBounds_toArray, List.set_cons_zero, List.set_cons_succ]
    refine wpAnyH_take (i := 4) (oi := ⟨some 22, _, _, _, _, _⟩) (v := .bool false) rfl (by kernel_rfl) (by kernel_rfl) (by kernel_rfl) (fun _ _ _ h => h) (Or.inl ⟨by rfl, ?_⟩) (by assumption) ?_
    · (intro w9 hSw; (try dsimp only at hSw); go_simp)
    try simp only [Act.put, List.setIfInBounds_toArray, List.set_cons_zero, List.set_cons_succ]
    refine wpAnyH_take (i := 5) (oi := ⟨some 23, _, _, _, _, _⟩) (v := .bool false) rfl (by kernel_rfl) (by kernel_rfl) (by kernel_rfl) (fun _ _ _ h => h) (Or.inl ⟨by rfl, ?_⟩) (by assumption) ?_
    · (intro w9 hSw; (try dsimp only at hSw); go_simp)
    try simp only [Act.put, List.setIfInBounds_toArray, List.set_cons_zero, List.set_cons_succ]
    refine wpAnyH_take (i := 6) (oi := ⟨some 24, _, _, _, _, _⟩) (v := dv A1 n1 ca1 B1 m1 cb1) rfl (by kernel_rfl) (by kernel_rfl) (by kernel_rfl) (fun _ _ _ h => h) (Or.inl ⟨by rfl, ?_⟩) (by assumption) ?_
    · (intro w9 hSw; obtain ⟨x0, x1, _, _⟩ := dcells (M0.out.below hSw); (try dsimp only at hSw); go_simp)
    try simp only [Act.put, List.setIfInBounds_toArray, List.set_cons_zero, List.set_cons_succ]
    refine wpAnyH_take (i := 7) (oi := ⟨some 25, _, _, _, _, _⟩) (v := dv A2 n2 ca2 B2 m2 cb2) rfl (by kernel_rfl) (by kernel_rfl) (by kernel_rfl) (fun _ _ _ h => h) (Or.inl ⟨by rfl, ?_⟩) (by assumption) ?_
    · (intro w9 hSw; obtain ⟨x0, x1, _, _⟩ := dcells (M1.out.below hSw); (try dsimp only at hSw); go_simp)
    try simp only [Act.put, List.setIfInBounds_toArray, List.set_cons_zero, List.set_cons_succ]
    refine wpAnyH_take (i := 9) (oi := ⟨some 27, _, _, _, _, _⟩) (v := dv A1 n1 ca1 B1 m1 cb1) rfl (by kernel_rfl) (by kernel_rfl) (by kernel_rfl) (fun _ _ _ h => h) (Or.inl ⟨by rfl, ?_⟩) (by assumption) ?_
    · (intro w9 hSw; obtain ⟨x0, x1, _, _⟩ := dcells (M0.out.below hSw); (try dsimp only at hSw); go_simp)
    try simp only [Act.put, List.setIfInBounds_toArray, List.set_cons_zero, List.set_cons_succ]
    refine wpAnyH_take (i := 10) (oi := ⟨some 28, _, _, _, _, _⟩) (v := dv A2 n2 ca2 B2 m2 cb2) rfl (by kernel_rfl) (by kernel_rfl) (by kernel_rfl) (fun _ _ _ h => h) (Or.inl ⟨by rfl, ?_⟩) (by assumption) ?_
    · (intro w9 hSw; obtain ⟨x0, x1, _, _⟩ := dcells (M1.out.below hSw); (try dsimp only at hSw); go_simp)
    try simp only [Act.put, List.setIfInBounds_toArray, List.set_cons_zero, List.set_cons_succ]
    refine wpAnyH_ready (rs := [8]) (by kernel_rfl) (by simp) ?_
    refine AllReadyH.cons (o := ⟨some 26, _, _, _, _, _⟩) rfl (fun K9 hK9 => ?_) AllReadyH.nil
    have hcur : Below w4.heap.size w4 _ := hHeld
    go_simp; go_at_call 11
    refine (HLI.out _ (bt HB4.out hcur)).mono ?_
    rintro e wc ⟨rfl, hbc⟩
    refine hK9.out _ _ ?_ (fun hHeld => ?_)
    · first | exact bt hcur hbc | exact (bt hcur hbc).drew
    clear hK9 K9
    try simp only [Act.put, List.setIfInBounds_toArray, List.set_cons_zero, List.set_cons_succ]
    refine wpAnyH_ready (rs := [11]) (by kernel_rfl) (by simp) ?_
    refine AllReadyH.cons (o := ⟨some 29, _, _, _, _, _⟩) rfl (fun K9 hK9 => ?_) AllReadyH.nil
    have hcur : Below w4.heap.size w4 _ := hHeld
    go_simp; go_at_call 12
    refine (HSA.out _ (bt HB4.out hcur)).mono ?_
    rintro e wd ⟨rfl, hbd⟩
    refine hK9.out _ _ ?_ (fun hHeld => ?_)
    · first | exact bt hcur hbd | exact (bt hcur hbd).drew
    clear hK9 K9
    try simp only [Act.put, List.setIfInBounds_toArray, List.set_cons_zero, List.set_cons_succ]
    refine wpAnyH_take (i := 12) (oi := ⟨some 30, _, _, _, _, _⟩) (v := .bool false) rfl (by kernel_rfl) (by kernel_rfl) (by kernel_rfl) (fun _ _ _ h => h) (Or.inl ⟨by rfl, ?_⟩) (by assumption) ?_
    · (intro w9 hSw; (try dsimp only at hSw); go_simp)
    try simp only [Act.put, List.setIfInBounds_toArray, List.set_cons_zero, List.set_cons_succ]
    refine wpAnyH_take (i := 13) (oi := ⟨some 31, _, _, _, _, _⟩) (v := .bool false) rfl (by kernel_rfl) (by kernel_rfl) (by kernel_rfl) (fun _ _ _ h => h) (Or.inl ⟨by rfl, ?_⟩) (by assumption) ?_
    · (intro w9 hSw; (try dsimp only at hSw); go_simp)
    try simp only [Act.put, List.setIfInBounds_toArray, List.set_cons_zero, List.set_cons_succ]
    refine wpAnyH_take (i := 14) (oi := ⟨some 32, _, _, _, _, _⟩) (v := .bool false) rfl (by kernel_rfl) (by kernel_rfl) (by kernel_rfl) (fun _ _ _ h => h) (Or.inl ⟨by rfl, ?_⟩) (by assumption) ?_
    · (intro w9 hSw; (try dsimp only at hSw); go_simp)
    try simp only [Act.put, List.setIfInBounds_toArray, List.set_cons_zero, List.set_cons_succ]
    refine wpAnyH_take (i := 15) (oi := ⟨some 33, _, _, _, _, _⟩) (v := dv A1 n1 ca1 B1 m1 cb1) rfl (by kernel_rfl) (by kernel_rfl) (by kernel_rfl) (fun _ _ _ h => h) (Or.inl ⟨by rfl, ?_⟩) (by assumption) ?_
    · (intro w9 hSw; obtain ⟨x0, x1, _, _⟩ := dcells (M0.out.below hSw); (try dsimp only at hSw); go_simp)
    try simp only [Act.put, List.setIfInBounds_toArray, List.set_cons_zero, List.set_cons_succ]
    refine wpAnyH_take (i := 16) (oi := ⟨some 34, _, _, _, _, _⟩) (v := dv A1 n1 ca1 B1 m1 cb1) rfl (by kernel_rfl) (by kernel_rfl) (by kernel_rfl) (fun _ _ _ h => h) (Or.inl ⟨by rfl, ?_⟩) (by assumption) ?_
    · (intro w9 hSw; obtain ⟨x0, x1, _, _⟩ := dcells (M0.out.below hSw); (try dsimp only at hSw); go_simp)
    try simp only [Act.put, List.setIfInBounds_toArray, List.set_cons_zero, List.set_cons_succ]
    refine wpAnyH_ready (rs := [17]) (by kernel_rfl) (by simp) ?_
    refine AllReadyH.cons (o := ⟨some 35, _, _, _, _, _⟩) rfl (fun K9 hK9 => ?_) AllReadyH.nil
    have hcur : Below w4.heap.size w4 _ := hHeld
    go_simp; go_at_call 11
    refine (HLA.out _ (bt HB4.out hcur)).mono ?_
    rintro e we ⟨rfl, hbe⟩
    refine hK9.out _ _ ?_ (fun hHeld => ?_)
    · first | exact bt hcur hbe | exact (bt hcur hbe).drew
    clear hK9 K9
    try simp only [Act.put, List.setIfInBounds_toArray, List.set_cons_zero, List.set_cons_succ]
    refine wpAnyH_take (i := 18) (oi := ⟨some 36, _, _, _, _, _⟩) (v := .bool false) rfl (by kernel_rfl) (by kernel_rfl) (by kernel_rfl) (fun _ _ _ h => h) (Or.inl ⟨by rfl, ?_⟩) (by assumption) ?_
    · (intro w9 hSw; (try dsimp only at hSw); go_simp)
    try simp only [Act.put, List.setIfInBounds_toArray, List.set_cons_zero, List.set_cons_succ]
    refine wpAnyH_take (i := 19) (oi := ⟨some 37, _, _, _, _, _⟩) (v := .bool false) rfl (by kernel_rfl) (by kernel_rfl) (by kernel_rfl) (fun _ _ _ h => h) (Or.inl ⟨by rfl, ?_⟩) (by assumption) ?_
    · (intro w9 hSw; (try dsimp only at hSw); go_simp)
    try simp only [Act.put, List.setIfInBounds_toArray, List.set_cons_zero, List.set_cons_succ]
    refine wpAnyH_take (i := 20) (oi := ⟨some 38, _, _, _, _, _⟩) (v := .bool false) rfl (by kernel_rfl) (by kernel_rfl) (by kernel_rfl) (fun _ _ _ h => h) (Or.inl ⟨by rfl, ?_⟩) (by assumption) ?_
    · (intro w9 hSw; (try dsimp only at hSw); go_simp)
    try simp only [Act.put, List.setIfInBounds_toArray, List.set_cons_zero, List.set_cons_succ]
    refine wpAnyH_ready (rs := [21]) (by kernel_rfl) (by simp) ?_
    refine AllReadyH.cons (o := ⟨some 39, _, _, _, _, _⟩) rfl (fun K9 hK9 => ?_) AllReadyH.nil
    have hcur : Below w4.heap.size w4 _ := hHeld
    go_simp; go_at_call 13
    refine (HAL.out _).mono ?_
    rintro e wf ⟨rfl, hbf⟩
    refine hK9.out _ _ ?_ (fun hHeld => ?_)
    · first | exact bt hcur hbf | exact (bt hcur hbf).drew
    clear hK9 K9
    try simp only [Act.put, List.setIfInBounds_toArray, List.set_cons_zero, List.set_cons_succ]
    refine wpAnyH_take (i := 22) (oi := ⟨some 40, _, _, _, _, _⟩) (v := .bool false) rfl (by kernel_rfl) (by kernel_rfl) (by kernel_rfl) (fun _ _ _ h => h) (Or.inl ⟨by rfl, ?_⟩) (by assumption) ?_
    · (intro w9 hSw; (try dsimp only at hSw); go_simp)
    try simp only [Act.put, List.setIfInBounds_toArray, List.set_cons_zero, List.set_cons_succ]
    refine wpAnyH_take (i := 23) (oi := ⟨some 41, _, _, _, _, _⟩) (v := .bool false) rfl (by kernel_rfl) (by kernel_rfl) (by kernel_rfl) (fun _ _ _ h => h) (Or.inl ⟨by rfl, ?_⟩) (by assumption) ?_
    · (intro w9 hSw; (try dsimp only at hSw); go_simp)
    try simp only [Act.put, List.setIfInBounds_toArray, List.set_cons_zero, List.set_cons_succ]
    refine wpAnyH_done (by kernel_rfl) ?_ _
    have hfin : Below w4.heap.size w4 _ := hHeld
    have HB5 := Lib.hid (bt HB4.out hfin)
    have M3 := Lib.hid (M2.out.below hfin)
    have HF4 := Lib.hid hfin
    obtain ⟨x0, x1, _, _⟩ := dcells M3.out
    clear hfin hHeld HRA HRB HLI HSA HLA HAL M0 M1
    rcases (show k < 1 ∨ (1 ≤ k ∧ 64 < k) by omega) with hk1 | ⟨hk1, hk2⟩
    all_goals
      clear hk
      go_wp2_with fail
      refine (HSM.out _).mono ?_
      rintro e w9 ⟨rfl, hb9⟩
      go_wp2_with fail
      go_ret
      exact ⟨rfl, bt HB5.out hb9⟩

set_option maxRecDepth 100000 in
set_option maxHeartbeats 8000000 in
theorem dright_yes (A1 B1 A2 B2 : Option Addr) (ca1 cb1 ca2 cb2 n01 m01 n02 m02 n1 m1 n2 m2 : Nat) (S1 S2 : List (List UInt8)) (C1 C2 : List PutL) (q : Nat) (w : World) (hA1 : SR w A1 S1) (hB1 : PR w B1 C1) (hA2 : SR w A2 S2) (hB2 : PR w B2 C2) (hn1 : S1.length = n1) (hm1 : C1.length = m1) (hn2 : S2.length = n2) (hm2 : C2.length = m2) (hn01 : min n01 70 = n1) (hm01 : min m01 65 = m1) (hn02 : min n02 70 = n2) (hm02 : min m02 65 = m2) (hca1 : n01 ≤ ca1) (hcb1 : m01 ≤ cb1) (hca2 : n02 ≤ ca2) (hcb2 : m02 ≤ cb2) (hk1 : 1 ≤ q) (hk2 : q ≤ 64) :
    Calls Try.prog 3 #[dv A1 n01 ca1 B1 m01 cb1, dv A2 n02 ca2 B2 m02 cb2, .int .i64 (q : Int)] w fun e w' => e = .returned (.bool true) ∧ Below w.heap.size w w' := by
  have HF1 := Lib.hid (fun W => few_any A1 B1 ca1 cb1 n01 m01 W hca1 hcb1)
  rw [hn01, hm01] at HF1
  have HF2 := Lib.hid (fun W => few_any A2 B2 ca2 cb2 n02 m02 W hca2 hcb2)
  rw [hn02, hm02] at HF2
  have HRA := Lib.hid (fun W (hb : Below w.heap.size w W) => right_any A1 B1 ca1 cb1 n1 m1 S1 C1 W (hA1.later hb) (hB1.later hb) hn1 hm1)
  have HRB := Lib.hid (fun W (hb : Below w.heap.size w W) => rright_any A1 B1 ca1 cb1 n1 m1 S1 C1 W (hA1.later hb) (hB1.later hb) hn1 hm1)
  have HLI := Lib.hid (fun W (hb : Below w.heap.size w W) => like_any A1 A2 B1 B2 ca1 ca2 cb1 cb2 n1 n2 m1 m2 S1 S2 C1 C2 W (hA1.later hb) (hA2.later hb) (hB1.later hb) (hB2.later hb) hn1 hn2 hm1 hm2 (by omega) (by omega) (by omega) (by omega))
  have HSA := Lib.hid (fun W (hb : Below w.heap.size w W) => dsame_any A1 A2 B1 B2 ca1 ca2 cb1 cb2 n1 n2 m1 m2 S1 S2 C1 C2 W (hA1.later hb) (hA2.later hb) (hB1.later hb) (hB2.later hb) hn1 hn2 hm1 hm2 (by omega) (by omega))
  have HLA : Hid (∀ W, Below w.heap.size w W → Calls Try.prog 11 #[dv A1 n1 ca1 B1 m1 cb1, dv A1 n1 ca1 B1 m1 cb1] W fun e w' => e = .returned (.bool true) ∧ Below W.heap.size W w') := Lib.hid (fun W hb => by
    have := like_any A1 A1 B1 B1 ca1 ca1 cb1 cb1 n1 n1 m1 m1 S1 S1 C1 C1 W (hA1.later hb) (hA1.later hb) (hB1.later hb) (hB1.later hb) hn1 hn1 hm1 hm1 (by omega) (by omega) (by omega) (by omega)
    simpa using this)
  have HAL := Lib.hid alive_any
  generalize rightB S1 C1 = R1 at HRA HRB
  generalize decide (S1 = S2 ∧ C1 = C2) = R2 at HLI HSA
  clear hA1 hB1 hA2 hB2 hn1 hm1 hn2 hm2 hn01 hm01 hn02 hm02 hca1 hcb1 hca2 hcb2
  have v0 : Blk ((w.alloc (.cells #[.slice A1 n01 ca1, .slice B1 m01 cb1] 25)).alloc (.cells #[.slice A2 n02 ca2, .slice B2 m02 cb2] 25)) w.heap.size 25 #[.slice A1 n01 ca1, .slice B1 m01 cb1] := (Blk.new w _ _).alloc _
  have v1 : Blk ((w.alloc (.cells #[.slice A1 n01 ca1, .slice B1 m01 cb1] 25)).alloc (.cells #[.slice A2 n02 ca2, .slice B2 m02 cb2] 25)) (w.heap.size + 1) 25 #[.slice A2 n02 ca2, .slice B2 m02 cb2] := Blk.newAt (by simp) _ _
  have hV : Below w.heap.size w ((w.alloc (.cells #[.slice A1 n01 ca1, .slice B1 m01 cb1] 25)).alloc (.cells #[.slice A2 n02 ca2, .slice B2 m02 cb2] 25)) := ba (ba (Below.refl _ _) _) _
  have HNW := Lib.hid (fun W => new_yes q W hk1 hk2)
  have hmk := make_full q (by omega)
  have HSM : Hid (∀ (T : List (List UInt8)) (A1 A2 : Option Addr) (c1 c2 : Nat) (W : World), SR W A1 T → SR W A2 T → T.length = q → Calls Try.prog 12 #[dv A1 q c1 none 0 0, dv A2 q c2 none 0 0] W fun e w' => e = .returned (.bool true) ∧ Below W.heap.size W w') := Lib.hid (fun T A1 A2 c1 c2 W h1 h2 hT => by
    have := dsame_any A1 A2 none none c1 c2 0 0 q q 0 0 T T [] [] W h1 h2 (PR.nil _ _) (PR.nil _ _) hT hT rfl rfl (by omega) (by omega)
    simpa using this)
  have HMK := Lib.hid hmk
  clear hmk
  have i1 : ¬ (q : Int) < 1 := by omega
  have i2 : (q : Int) ≤ 64 := by omega
  go_enter Try.func3, Try.ntmps3
  go_upto_region 1 with fail
  generalize (w.alloc (.cells #[.slice A1 n01 ca1, .slice B1 m01 cb1] 25)).alloc (.cells #[.slice A2 n02 ca2, .slice B2 m02 cb2] 25) = w1 at v0 v1 hV ⊢
  have K0 := Lib.hid v0.drew
  have K1 := Lib.hid v1.drew
  have HV := Lib.hid hV.drew
  clear v0 v1 hV
  go_cut [13] from 9 to 14 (fun s13 wx => s13 = undef ∧ Hid (Blk wx w.heap.size 25 #[.slice A1 n1 ca1, .slice B1 m1 cb1]) ∧ Hid (Blk wx (w.heap.size + 1) 25 #[.slice A2 n2 ca2, .slice B2 m2 cb2]) ∧ Hid (Below w.heap.size w wx))
  case first =>
    refine wp_region_held_drew (S := fun _ => True) (by kernel_rfl) trivial (fun hHeld => ?_)
    refine wpAnyH_ready (rs := [0, 2]) (by kernel_rfl) (by simp) ?_
    refine AllReadyH.cons (o := ⟨some 9, _, _, _, _, _⟩) rfl (fun K9 hK9 => ?_) ?_
    · skip
      obtain ⟨x0, x1, _, _⟩ := dcells K0.out
      go_simp
      clear x0 x1
      refine hK9.out _ _ ?_ (fun hHeld => ?_)
      · trivial
      clear hK9 K9
      try simp only [Act.put, List.setIfInBounds_toArray, List.set_cons_zero, List.set_cons_succ]
      refine wpAnyH_ready (rs := [1, 2]) (by kernel_rfl) (by simp) ?_
      refine AllReadyH.cons (o := ⟨some 10, _, _, _, _, _⟩) rfl (fun K9 hK9 => ?_) ?_
      · skip
        go_simp; go_at_call 7
        refine (HF1.out _).mono ?_
        rintro e wa ⟨rfl, hba⟩
        refine hK9.out _ _ ?_ (fun hHeld => ?_)
        · trivial
        clear hK9 K9
        try simp only [Act.put, List.setIfInBounds_toArray, List.set_cons_zero, List.set_cons_succ]
        refine wpAnyH_ready (rs := [2]) (by kernel_rfl) (by simp) ?_
        refine AllReadyH.cons (o := ⟨some 11, _, _, _, _, _⟩) rfl (fun K9 hK9 => ?_) AllReadyH.nil
        first | (have hx := dcells (K1.out.below hba); obtain ⟨x0, x1, _, _⟩ := hx) | (have hx := dcells K1.out; obtain ⟨x0, x1, _, _⟩ := hx)
        go_simp
        clear x0 x1
        refine hK9.out _ _ ?_ (fun hHeld => ?_)
        · trivial
        clear hK9 K9
        try simp only [Act.put, List.setIfInBounds_toArray, List.set_cons_zero, List.set_cons_succ]
        refine wpAnyH_ready (rs := [3]) (by kernel_rfl) (by simp) ?_
        refine AllReadyH.cons (o := ⟨some 12, _, _, _, _, _⟩) rfl (fun K9 hK9 => ?_) AllReadyH.nil
        go_simp; go_at_call 7
        refine (HF2.out _).mono ?_
        rintro e wb ⟨rfl, hbb⟩
        refine hK9.out _ _ ?_ (fun hHeld => ?_)
        · trivial
        clear hK9 K9
        try simp only [Act.put, List.setIfInBounds_toArray, List.set_cons_zero, List.set_cons_succ]
        refine wpAnyH_ready (rs := [4]) (by kernel_rfl) (by simp) ?_
        refine AllReadyH.cons (o := ⟨none, _, _, _, _, _⟩) rfl (fun K9 hK9 => ?_) AllReadyH.nil
        have Ka := (K0.out.below hba).below hbb; have Kb := (K1.out.below hba).below hbb; have Hb := bt (bt HV.out hba) hbb; obtain ⟨_, _, f0, f1⟩ := dcells Ka; obtain ⟨x0, x1, _, _⟩ := dcells Ka
        go_simp
        clear f0 f1 x0 x1
        refine hK9.out _ _ ?_ (fun hHeld => ?_)
        · trivial
        clear hK9 K9
        try simp only [Act.put]
        refine wpAnyH_ready (rs := [5]) (by kernel_rfl) (by simp) ?_
        refine AllReadyH.cons (o := ⟨none, _, _, _, _, _⟩) rfl (fun K9 hK9 => ?_) AllReadyH.nil
        have Kc := (Ka.set_ 0 (.slice A1 n1 ca1)).set_ 1 (.slice B1 m1 cb1); have Kd := (Kb.far (p := ⟨w.heap.size, 0, none⟩) (by simp) (.slice A1 n1 ca1)).far (p := ⟨w.heap.size, 1, none⟩) (by simp) (.slice B1 m1 cb1); obtain ⟨_, _, f0, f1⟩ := dcells Kd; obtain ⟨x0, x1, _, _⟩ := dcells Kd
        go_simp
        clear f0 f1 x0 x1
        refine hK9.out _ _ ?_ (fun hHeld => ?_)
        · trivial
        clear hK9 K9
        try simp only [Act.put]
        refine wpAnyH_done (by kernel_rfl) ?_ _
        go_wp2_with fail
        go_meet
        exact ⟨rfl, Lib.hid (((Kc.far (p := ⟨w.heap.size + 1, 0, none⟩) (by simp) (.slice A2 n2 ca2)).far (p := ⟨w.heap.size + 1, 1, none⟩) (by simp) (.slice B2 m2 cb2))), Lib.hid (((Kd.set_ 0 (.slice A2 n2 ca2)).set_ 1 (.slice B2 m2 cb2))), Lib.hid ((bs (bs (bs (bs Hb (b := w.heap.size) (o := 0) (by omega) (.slice A1 n1 ca1)) (b := w.heap.size) (o := 1) (by omega) (.slice B1 m1 cb1)) (b := w.heap.size + 1) (o := 0) (by omega) (.slice A2 n2 ca2)) (b := w.heap.size + 1) (o := 1) (by omega) (.slice B2 m2 cb2)))⟩
      refine AllReadyH.cons (o := ⟨some 11, _, _, _, _, _⟩) rfl (fun K9 hK9 => ?_) AllReadyH.nil
      · skip
        first | (have hx := dcells (K1.out.below hba); obtain ⟨x0, x1, _, _⟩ := hx) | (have hx := dcells K1.out; obtain ⟨x0, x1, _, _⟩ := hx)
        go_simp
        clear x0 x1
        refine hK9.out _ _ ?_ (fun hHeld => ?_)
        · trivial
        clear hK9 K9
        try simp only [Act.put, List.setIfInBounds_toArray, List.set_cons_zero, List.set_cons_succ]
        refine wpAnyH_ready (rs := [1]) (by kernel_rfl) (by simp) ?_
        refine AllReadyH.cons (o := ⟨some 10, _, _, _, _, _⟩) rfl (fun K9 hK9 => ?_) AllReadyH.nil
        go_simp; go_at_call 7
        refine (HF1.out _).mono ?_
        rintro e wa ⟨rfl, hba⟩
        refine hK9.out _ _ ?_ (fun hHeld => ?_)
        · trivial
        clear hK9 K9
        try simp only [Act.put, List.setIfInBounds_toArray, List.set_cons_zero, List.set_cons_succ]
        refine wpAnyH_ready (rs := [3]) (by kernel_rfl) (by simp) ?_
        refine AllReadyH.cons (o := ⟨some 12, _, _, _, _, _⟩) rfl (fun K9 hK9 => ?_) AllReadyH.nil
        go_simp; go_at_call 7
        refine (HF2.out _).mono ?_
        rintro e wb ⟨rfl, hbb⟩
        refine hK9.out _ _ ?_ (fun hHeld => ?_)
        · trivial
        clear hK9 K9
        try simp only [Act.put, List.setIfInBounds_toArray, List.set_cons_zero, List.set_cons_succ]
        refine wpAnyH_ready (rs := [4]) (by kernel_rfl) (by simp) ?_
        refine AllReadyH.cons (o := ⟨none, _, _, _, _, _⟩) rfl (fun K9 hK9 => ?_) AllReadyH.nil
        have Ka := (K0.out.below hba).below hbb; have Kb := (K1.out.below hba).below hbb; have Hb := bt (bt HV.out hba) hbb; obtain ⟨_, _, f0, f1⟩ := dcells Ka; obtain ⟨x0, x1, _, _⟩ := dcells Ka
        go_simp
        clear f0 f1 x0 x1
        refine hK9.out _ _ ?_ (fun hHeld => ?_)
        · trivial
        clear hK9 K9
        try simp only [Act.put]
        refine wpAnyH_ready (rs := [5]) (by kernel_rfl) (by simp) ?_
        refine AllReadyH.cons (o := ⟨none, _, _, _, _, _⟩) rfl (fun K9 hK9 => ?_) AllReadyH.nil
        have Kc := (Ka.set_ 0 (.slice A1 n1 ca1)).set_ 1 (.slice B1 m1 cb1); have Kd := (Kb.far (p := ⟨w.heap.size, 0, none⟩) (by simp) (.slice A1 n1 ca1)).far (p := ⟨w.heap.size, 1, none⟩) (by simp) (.slice B1 m1 cb1); obtain ⟨_, _, f0, f1⟩ := dcells Kd; obtain ⟨x0, x1, _, _⟩ := dcells Kd
        go_simp
        clear f0 f1 x0 x1
        refine hK9.out _ _ ?_ (fun hHeld => ?_)
        · trivial
        clear hK9 K9
        try simp only [Act.put]
        refine wpAnyH_done (by kernel_rfl) ?_ _
        go_wp2_with fail
        go_meet
        exact ⟨rfl, Lib.hid (((Kc.far (p := ⟨w.heap.size + 1, 0, none⟩) (by simp) (.slice A2 n2 ca2)).far (p := ⟨w.heap.size + 1, 1, none⟩) (by simp) (.slice B2 m2 cb2))), Lib.hid (((Kd.set_ 0 (.slice A2 n2 ca2)).set_ 1 (.slice B2 m2 cb2))), Lib.hid ((bs (bs (bs (bs Hb (b := w.heap.size) (o := 0) (by omega) (.slice A1 n1 ca1)) (b := w.heap.size) (o := 1) (by omega) (.slice B1 m1 cb1)) (b := w.heap.size + 1) (o := 0) (by omega) (.slice A2 n2 ca2)) (b := w.heap.size + 1) (o := 1) (by omega) (.slice B2 m2 cb2)))⟩
    refine AllReadyH.cons (o := ⟨some 11, _, _, _, _, _⟩) rfl (fun K9 hK9 => ?_) AllReadyH.nil
    · skip
      first | (have hx := dcells (K1.out.below hba); obtain ⟨x0, x1, _, _⟩ := hx) | (have hx := dcells K1.out; obtain ⟨x0, x1, _, _⟩ := hx)
      go_simp
      clear x0 x1
      refine hK9.out _ _ ?_ (fun hHeld => ?_)
      · trivial
      clear hK9 K9
      try simp only [Act.put, List.setIfInBounds_toArray, List.set_cons_zero, List.set_cons_succ]
      refine wpAnyH_ready (rs := [0]) (by kernel_rfl) (by simp) ?_
      refine AllReadyH.cons (o := ⟨some 9, _, _, _, _, _⟩) rfl (fun K9 hK9 => ?_) AllReadyH.nil
      obtain ⟨x0, x1, _, _⟩ := dcells K0.out
      go_simp
      clear x0 x1
      refine hK9.out _ _ ?_ (fun hHeld => ?_)
      · trivial
      clear hK9 K9
      try simp only [Act.put, List.setIfInBounds_toArray, List.set_cons_zero, List.set_cons_succ]
      refine wpAnyH_ready (rs := [1]) (by kernel_rfl) (by simp) ?_
      refine AllReadyH.cons (o := ⟨some 10, _, _, _, _, _⟩) rfl (fun K9 hK9 => ?_) AllReadyH.nil
      go_simp; go_at_call 7
      refine (HF1.out _).mono ?_
      rintro e wa ⟨rfl, hba⟩
      refine hK9.out _ _ ?_ (fun hHeld => ?_)
      · trivial
      clear hK9 K9
      try simp only [Act.put, List.setIfInBounds_toArray, List.set_cons_zero, List.set_cons_succ]
      refine wpAnyH_ready (rs := [3]) (by kernel_rfl) (by simp) ?_
      refine AllReadyH.cons (o := ⟨some 12, _, _, _, _, _⟩) rfl (fun K9 hK9 => ?_) AllReadyH.nil
      go_simp; go_at_call 7
      refine (HF2.out _).mono ?_
      rintro e wb ⟨rfl, hbb⟩
      refine hK9.out _ _ ?_ (fun hHeld => ?_)
      · trivial
      clear hK9 K9
      try simp only [Act.put, List.setIfInBounds_toArray, List.set_cons_zero, List.set_cons_succ]
      refine wpAnyH_ready (rs := [4]) (by kernel_rfl) (by simp) ?_
      refine AllReadyH.cons (o := ⟨none, _, _, _, _, _⟩) rfl (fun K9 hK9 => ?_) AllReadyH.nil
      have Ka := (K0.out.below hba).below hbb; have Kb := (K1.out.below hba).below hbb; have Hb := bt (bt HV.out hba) hbb; obtain ⟨_, _, f0, f1⟩ := dcells Ka; obtain ⟨x0, x1, _, _⟩ := dcells Ka
      go_simp
      clear f0 f1 x0 x1
      refine hK9.out _ _ ?_ (fun hHeld => ?_)
      · trivial
      clear hK9 K9
      try simp only [Act.put]
      refine wpAnyH_ready (rs := [5]) (by kernel_rfl) (by simp) ?_
      refine AllReadyH.cons (o := ⟨none, _, _, _, _, _⟩) rfl (fun K9 hK9 => ?_) AllReadyH.nil
      have Kc := (Ka.set_ 0 (.slice A1 n1 ca1)).set_ 1 (.slice B1 m1 cb1); have Kd := (Kb.far (p := ⟨w.heap.size, 0, none⟩) (by simp) (.slice A1 n1 ca1)).far (p := ⟨w.heap.size, 1, none⟩) (by simp) (.slice B1 m1 cb1); obtain ⟨_, _, f0, f1⟩ := dcells Kd; obtain ⟨x0, x1, _, _⟩ := dcells Kd
      go_simp
      clear f0 f1 x0 x1
      refine hK9.out _ _ ?_ (fun hHeld => ?_)
      · trivial
      clear hK9 K9
      try simp only [Act.put]
      refine wpAnyH_done (by kernel_rfl) ?_ _
      go_wp2_with fail
      go_meet
      exact ⟨rfl, Lib.hid (((Kc.far (p := ⟨w.heap.size + 1, 0, none⟩) (by simp) (.slice A2 n2 ca2)).far (p := ⟨w.heap.size + 1, 1, none⟩) (by simp) (.slice B2 m2 cb2))), Lib.hid (((Kd.set_ 0 (.slice A2 n2 ca2)).set_ 1 (.slice B2 m2 cb2))), Lib.hid ((bs (bs (bs (bs Hb (b := w.heap.size) (o := 0) (by omega) (.slice A1 n1 ca1)) (b := w.heap.size) (o := 1) (by omega) (.slice B1 m1 cb1)) (b := w.heap.size + 1) (o := 0) (by omega) (.slice A2 n2 ca2)) (b := w.heap.size + 1) (o := 1) (by omega) (.slice B2 m2 cb2)))⟩
  case rest =>
    obtain ⟨rfl, L0, L1, HW⟩ := hcut
    clear K0 K1 HV HF1 HF2
    go_wp2_with fail
    refine (HNW.out _).mono ?_
    rintro e w3 ⟨gn, rfl, hsn, hb3⟩
    have HSN := Lib.hid hsn
    clear hsn
    have N0 := Lib.hid (L0.out.below hb3)
    have N1 := Lib.hid (L1.out.below hb3)
    have HB3 := Lib.hid (bt HW.out hb3)
    clear L0 L1 HW hb3
    have M2 := Lib.hid (Blk.new w3 25 #[.slice (some ⟨gn, 0, none⟩) q q, .slice none 0 0])
    have M0 := Lib.hid (N0.out.alloc (.cells #[.slice (some ⟨gn, 0, none⟩) q q, .slice none 0 0] 25))
    have M1 := Lib.hid (N1.out.alloc (.cells #[.slice (some ⟨gn, 0, none⟩) q q, .slice none 0 0] 25))
    have HB4 := Lib.hid (ba HB3.out (.cells #[.slice (some ⟨gn, 0, none⟩) q q, .slice none 0 0] 25))
    clear N0 N1
    have HSN4 : Hid (SR (w3.alloc (.cells #[.slice (some ⟨gn, 0, none⟩) q q, .slice none 0 0] 25)) (some ⟨gn, 0, none⟩) (List.replicate q [])) := Lib.hid (HSN.out.later (ba (Below.refl _ _) _))
    go_upto_region 3 with fail
    generalize hw4 : w3.alloc (.cells #[.slice (some ⟨gn, 0, none⟩) q q, .slice none 0 0] 25) = w4 at M0 M1 M2 HB4 HSN4 ⊢
    refine wp_region_held_drew (S := fun W => Below w4.heap.size w4 W) (by kernel_rfl) (Below.refl _ _).drew (fun hHeld => ?_)
    refine wpAnyH_take (i := 0) (oi := ⟨some 18, _, _, _, _, _⟩) (v := dv A1 n1 ca1 B1 m1 cb1) rfl (by kernel_rfl) (by kernel_rfl) (by kernel_rfl) (fun _ _ _ h => h) (Or.inl ⟨by rfl, ?_⟩) (by assumption) ?_
    · (intro w9 hSw; obtain ⟨x0, x1, _, _⟩ := dcells (M0.out.below hSw); (try dsimp only at hSw); go_simp)
    try simp only [Act.put, List.setIfInBounds_toArray, List.set_cons_zero, List.set_cons_succ]
    refine wpAnyH_take (i := 2) (oi := ⟨some 20, _, _, _, _, _⟩) (v := dv A1 n1 ca1 B1 m1 cb1) rfl (by kernel_rfl) (by kernel_rfl) (by kernel_rfl) (fun _ _ _ h => h) (Or.inl ⟨by rfl, ?_⟩) (by assumption) ?_
    · (intro w9 hSw; obtain ⟨x0, x1, _, _⟩ := dcells (M0.out.below hSw); (try dsimp only at hSw); go_simp)
    try simp only [Act.put, List.setIfInBounds_toArray, List.set_cons_zero, List.set_cons_succ]
    refine wpAnyH_ready (rs := [1]) (by kernel_rfl) (by simp) ?_
    refine AllReadyH.cons (o := ⟨some 19, _, _, _, _, _⟩) rfl (fun K9 hK9 => ?_) AllReadyH.nil
    have hcur : Below w4.heap.size w4 _ := hHeld
    go_simp; go_at_call 9
    refine (HRA.out _ (bt HB4.out hcur)).mono ?_
    rintro e wa ⟨rfl, hba⟩
    refine hK9.out _ _ ?_ (fun hHeld => ?_)
    · first | exact bt hcur hba | exact (bt hcur hba).drew
    clear hK9 K9
    try simp only [Act.put, List.setIfInBounds_toArray, List.set_cons_zero, List.set_cons_succ]
    refine wpAnyH_ready (rs := [3]) (by kernel_rfl) (by simp) ?_
    refine AllReadyH.cons (o := ⟨some 21, _, _, _, _, _⟩) rfl (fun K9 hK9 => ?_) AllReadyH.nil
    have hcur : Below w4.heap.size w4 _ := hHeld
    go_simp; go_at_call 10
    refine (HRB.out _ (bt HB4.out hcur)).mono ?_
    rintro e wb ⟨rfl, hbb⟩
    refine hK9.out _ _ ?_ (fun hHeld => ?_)
    · first | exact bt hcur hbb | exact (bt hcur hbb).drew
    clear hK9 K9
    try simp only [Act.put, List.setIfInBounds_toArray, List.set_cons_zero, List.set_cons_succ]
    refine wpAnyH_take (i := 4) (oi := ⟨some 22, _, _, _, _, _⟩) (v := .bool false) rfl (by kernel_rfl) (by kernel_rfl) (by kernel_rfl) (fun _ _ _ h => h) (Or.inl ⟨by rfl, ?_⟩) (by assumption) ?_
    · (intro w9 hSw; (try dsimp only at hSw); go_simp)
    try simp only [Act.put, List.setIfInBounds_toArray, List.set_cons_zero, List.set_cons_succ]
    refine wpAnyH_take (i := 5) (oi := ⟨some 23, _, _, _, _, _⟩) (v := .bool false) rfl (by kernel_rfl) (by kernel_rfl) (by kernel_rfl) (fun _ _ _ h => h) (Or.inl ⟨by rfl, ?_⟩) (by assumption) ?_
    · (intro w9 hSw; (try dsimp only at hSw); go_simp)
    try simp only [Act.put, List.setIfInBounds_toArray, List.set_cons_zero, List.set_cons_succ]
    refine wpAnyH_take (i := 6) (oi := ⟨some 24, _, _, _, _, _⟩) (v := dv A1 n1 ca1 B1 m1 cb1) rfl (by kernel_rfl) (by kernel_rfl) (by kernel_rfl) (fun _ _ _ h => h) (Or.inl ⟨by rfl, ?_⟩) (by assumption) ?_
    · (intro w9 hSw; obtain ⟨x0, x1, _, _⟩ := dcells (M0.out.below hSw); (try dsimp only at hSw); go_simp)
    try simp only [Act.put, List.setIfInBounds_toArray, List.set_cons_zero, List.set_cons_succ]
    refine wpAnyH_take (i := 7) (oi := ⟨some 25, _, _, _, _, _⟩) (v := dv A2 n2 ca2 B2 m2 cb2) rfl (by kernel_rfl) (by kernel_rfl) (by kernel_rfl) (fun _ _ _ h => h) (Or.inl ⟨by rfl, ?_⟩) (by assumption) ?_
    · (intro w9 hSw; obtain ⟨x0, x1, _, _⟩ := dcells (M1.out.below hSw); (try dsimp only at hSw); go_simp)
    try simp only [Act.put, List.setIfInBounds_toArray, List.set_cons_zero, List.set_cons_succ]
    refine wpAnyH_take (i := 9) (oi := ⟨some 27, _, _, _, _, _⟩) (v := dv A1 n1 ca1 B1 m1 cb1) rfl (by kernel_rfl) (by kernel_rfl) (by kernel_rfl) (fun _ _ _ h => h) (Or.inl ⟨by rfl, ?_⟩) (by assumption) ?_
    · (intro w9 hSw; obtain ⟨x0, x1, _, _⟩ := dcells (M0.out.below hSw); (try dsimp only at hSw); go_simp)
    try simp only [Act.put, List.setIfInBounds_toArray, List.set_cons_zero, List.set_cons_succ]
    refine wpAnyH_take (i := 10) (oi := ⟨some 28, _, _, _, _, _⟩) (v := dv A2 n2 ca2 B2 m2 cb2) rfl (by kernel_rfl) (by kernel_rfl) (by kernel_rfl) (fun _ _ _ h => h) (Or.inl ⟨by rfl, ?_⟩) (by assumption) ?_
    · (intro w9 hSw; obtain ⟨x0, x1, _, _⟩ := dcells (M1.out.below hSw); (try dsimp only at hSw); go_simp)
    try simp only [Act.put, List.setIfInBounds_toArray, List.set_cons_zero, List.set_cons_succ]
    refine wpAnyH_ready (rs := [8]) (by kernel_rfl) (by simp) ?_
    refine AllReadyH.cons (o := ⟨some 26, _, _, _, _, _⟩) rfl (fun K9 hK9 => ?_) AllReadyH.nil
    have hcur : Below w4.heap.size w4 _ := hHeld
    go_simp; go_at_call 11
    refine (HLI.out _ (bt HB4.out hcur)).mono ?_
    rintro e wc ⟨rfl, hbc⟩
    refine hK9.out _ _ ?_ (fun hHeld => ?_)
    · first | exact bt hcur hbc | exact (bt hcur hbc).drew
    clear hK9 K9
    try simp only [Act.put, List.setIfInBounds_toArray, List.set_cons_zero, List.set_cons_succ]
    refine wpAnyH_ready (rs := [11]) (by kernel_rfl) (by simp) ?_
    refine AllReadyH.cons (o := ⟨some 29, _, _, _, _, _⟩) rfl (fun K9 hK9 => ?_) AllReadyH.nil
    have hcur : Below w4.heap.size w4 _ := hHeld
    go_simp; go_at_call 12
    refine (HSA.out _ (bt HB4.out hcur)).mono ?_
    rintro e wd ⟨rfl, hbd⟩
    refine hK9.out _ _ ?_ (fun hHeld => ?_)
    · first | exact bt hcur hbd | exact (bt hcur hbd).drew
    clear hK9 K9
    try simp only [Act.put, List.setIfInBounds_toArray, List.set_cons_zero, List.set_cons_succ]
    refine wpAnyH_take (i := 12) (oi := ⟨some 30, _, _, _, _, _⟩) (v := .bool false) rfl (by kernel_rfl) (by kernel_rfl) (by kernel_rfl) (fun _ _ _ h => h) (Or.inl ⟨by rfl, ?_⟩) (by assumption) ?_
    · (intro w9 hSw; (try dsimp only at hSw); go_simp)
    try simp only [Act.put, List.setIfInBounds_toArray, List.set_cons_zero, List.set_cons_succ]
    refine wpAnyH_take (i := 13) (oi := ⟨some 31, _, _, _, _, _⟩) (v := .bool false) rfl (by kernel_rfl) (by kernel_rfl) (by kernel_rfl) (fun _ _ _ h => h) (Or.inl ⟨by rfl, ?_⟩) (by assumption) ?_
    · (intro w9 hSw; (try dsimp only at hSw); go_simp)
    try simp only [Act.put, List.setIfInBounds_toArray, List.set_cons_zero, List.set_cons_succ]
    refine wpAnyH_take (i := 14) (oi := ⟨some 32, _, _, _, _, _⟩) (v := .bool false) rfl (by kernel_rfl) (by kernel_rfl) (by kernel_rfl) (fun _ _ _ h => h) (Or.inl ⟨by rfl, ?_⟩) (by assumption) ?_
    · (intro w9 hSw; (try dsimp only at hSw); go_simp)
    try simp only [Act.put, List.setIfInBounds_toArray, List.set_cons_zero, List.set_cons_succ]
    refine wpAnyH_take (i := 15) (oi := ⟨some 33, _, _, _, _, _⟩) (v := dv A1 n1 ca1 B1 m1 cb1) rfl (by kernel_rfl) (by kernel_rfl) (by kernel_rfl) (fun _ _ _ h => h) (Or.inl ⟨by rfl, ?_⟩) (by assumption) ?_
    · (intro w9 hSw; obtain ⟨x0, x1, _, _⟩ := dcells (M0.out.below hSw); (try dsimp only at hSw); go_simp)
    try simp only [Act.put, List.setIfInBounds_toArray, List.set_cons_zero, List.set_cons_succ]
    refine wpAnyH_take (i := 16) (oi := ⟨some 34, _, _, _, _, _⟩) (v := dv A1 n1 ca1 B1 m1 cb1) rfl (by kernel_rfl) (by kernel_rfl) (by kernel_rfl) (fun _ _ _ h => h) (Or.inl ⟨by rfl, ?_⟩) (by assumption) ?_
    · (intro w9 hSw; obtain ⟨x0, x1, _, _⟩ := dcells (M0.out.below hSw); (try dsimp only at hSw); go_simp)
    try simp only [Act.put, List.setIfInBounds_toArray, List.set_cons_zero, List.set_cons_succ]
    refine wpAnyH_ready (rs := [17]) (by kernel_rfl) (by simp) ?_
    refine AllReadyH.cons (o := ⟨some 35, _, _, _, _, _⟩) rfl (fun K9 hK9 => ?_) AllReadyH.nil
    have hcur : Below w4.heap.size w4 _ := hHeld
    go_simp; go_at_call 11
    refine (HLA.out _ (bt HB4.out hcur)).mono ?_
    rintro e we ⟨rfl, hbe⟩
    refine hK9.out _ _ ?_ (fun hHeld => ?_)
    · first | exact bt hcur hbe | exact (bt hcur hbe).drew
    clear hK9 K9
    try simp only [Act.put, List.setIfInBounds_toArray, List.set_cons_zero, List.set_cons_succ]
    refine wpAnyH_take (i := 18) (oi := ⟨some 36, _, _, _, _, _⟩) (v := .bool false) rfl (by kernel_rfl) (by kernel_rfl) (by kernel_rfl) (fun _ _ _ h => h) (Or.inl ⟨by rfl, ?_⟩) (by assumption) ?_
    · (intro w9 hSw; (try dsimp only at hSw); go_simp)
    try simp only [Act.put, List.setIfInBounds_toArray, List.set_cons_zero, List.set_cons_succ]
    refine wpAnyH_take (i := 19) (oi := ⟨some 37, _, _, _, _, _⟩) (v := .bool false) rfl (by kernel_rfl) (by kernel_rfl) (by kernel_rfl) (fun _ _ _ h => h) (Or.inl ⟨by rfl, ?_⟩) (by assumption) ?_
    · (intro w9 hSw; (try dsimp only at hSw); go_simp)
    try simp only [Act.put, List.setIfInBounds_toArray, List.set_cons_zero, List.set_cons_succ]
    refine wpAnyH_take (i := 20) (oi := ⟨some 38, _, _, _, _, _⟩) (v := .bool false) rfl (by kernel_rfl) (by kernel_rfl) (by kernel_rfl) (fun _ _ _ h => h) (Or.inl ⟨by rfl, ?_⟩) (by assumption) ?_
    · (intro w9 hSw; (try dsimp only at hSw); go_simp)
    try simp only [Act.put, List.setIfInBounds_toArray, List.set_cons_zero, List.set_cons_succ]
    refine wpAnyH_ready (rs := [21]) (by kernel_rfl) (by simp) ?_
    refine AllReadyH.cons (o := ⟨some 39, _, _, _, _, _⟩) rfl (fun K9 hK9 => ?_) AllReadyH.nil
    have hcur : Below w4.heap.size w4 _ := hHeld
    go_simp; go_at_call 13
    refine (HAL.out _).mono ?_
    rintro e wf ⟨rfl, hbf⟩
    refine hK9.out _ _ ?_ (fun hHeld => ?_)
    · first | exact bt hcur hbf | exact (bt hcur hbf).drew
    clear hK9 K9
    try simp only [Act.put, List.setIfInBounds_toArray, List.set_cons_zero, List.set_cons_succ]
    refine wpAnyH_take (i := 22) (oi := ⟨some 40, _, _, _, _, _⟩) (v := .bool false) rfl (by kernel_rfl) (by kernel_rfl) (by kernel_rfl) (fun _ _ _ h => h) (Or.inl ⟨by rfl, ?_⟩) (by assumption) ?_
    · (intro w9 hSw; (try dsimp only at hSw); go_simp)
    try simp only [Act.put, List.setIfInBounds_toArray, List.set_cons_zero, List.set_cons_succ]
    refine wpAnyH_take (i := 23) (oi := ⟨some 41, _, _, _, _, _⟩) (v := .bool false) rfl (by kernel_rfl) (by kernel_rfl) (by kernel_rfl) (fun _ _ _ h => h) (Or.inl ⟨by rfl, ?_⟩) (by assumption) ?_
    · (intro w9 hSw; (try dsimp only at hSw); go_simp)
    try simp only [Act.put, List.setIfInBounds_toArray, List.set_cons_zero, List.set_cons_succ]
    refine wpAnyH_done (by kernel_rfl) ?_ _
    have hfin : Below w4.heap.size w4 _ := hHeld
    have HB5 := Lib.hid (bt HB4.out hfin)
    have M3 := Lib.hid (M2.out.below hfin)
    have HF4 := Lib.hid hfin
    obtain ⟨x0, x1, _, _⟩ := dcells M3.out
    clear hfin hHeld HRA HRB HLI HSA HLA HAL M0 M1
    have HSN5 := Lib.hid (HSN4.out.later HF4.out)
    clear x0 x1 HNW
    go_upto_region 7 with fail
    refine wp_region_held_drew (S := fun W => Below wf.heap.size wf W) (by kernel_rfl) (Below.refl _ _).drew (fun hHeld => ?_)
    refine wpAnyH_take (i := 0) (oi := ⟨some 55, _, _, _, _, _⟩) (v := .int .i64 0) rfl (by kernel_rfl) (by kernel_rfl) (by kernel_rfl) (fun _ _ _ h => h) (Or.inl ⟨by rfl, ?_⟩) (by assumption) ?_
    · (intro w9 hSw; (try dsimp only at hSw); go_simp)
    try simp only [Act.put, List.setIfInBounds_toArray, List.set_cons_zero, List.set_cons_succ]
    refine wpAnyH_take (i := 1) (oi := ⟨some 56, _, _, _, _, _⟩) (v := .bool true) rfl (by kernel_rfl) (by kernel_rfl) (by kernel_rfl) (fun _ _ _ h => h) (Or.inl ⟨by rfl, ?_⟩) (by assumption) ?_
    · (intro w9 hSw; (try dsimp only at hSw); go_simp)
    try simp only [Act.put, List.setIfInBounds_toArray, List.set_cons_zero, List.set_cons_succ]
    refine wpAnyH_take (i := 2) (oi := ⟨some 57, _, _, _, _, _⟩) (v := .bool true) rfl (by kernel_rfl) (by kernel_rfl) (by kernel_rfl) (fun _ _ _ h => h) (Or.inl ⟨by rfl, ?_⟩) (by assumption) ?_
    · (intro w9 hSw; (try dsimp only at hSw); go_simp)
    try simp only [Act.put, List.setIfInBounds_toArray, List.set_cons_zero, List.set_cons_succ]
    refine wpAnyH_take (i := 3) (oi := ⟨some 58, _, _, _, _, _⟩) (v := dv (some ⟨gn, 0, none⟩) q q none 0 0) rfl (by kernel_rfl) (by kernel_rfl) (by kernel_rfl) (fun _ _ _ h => h) (Or.inl ⟨by rfl, ?_⟩) (by assumption) ?_
    · (intro w9 hSw; obtain ⟨x0, x1, _, _⟩ := dcells (M3.out.below hSw); (try dsimp only at hSw); go_simp)
    try simp only [Act.put, List.setIfInBounds_toArray, List.set_cons_zero, List.set_cons_succ]
    refine wpAnyH_take (i := 4) (oi := ⟨some 59, _, _, _, _, _⟩) (v := .int .i64 (q : Int)) rfl (by kernel_rfl) (by kernel_rfl) (by kernel_rfl) (fun _ _ _ h => h) (Or.inl ⟨by rfl, ?_⟩) (by assumption) ?_
    · (intro w9 hSw; (try dsimp only at hSw); go_simp)
    try simp only [Act.put, List.setIfInBounds_toArray, List.set_cons_zero, List.set_cons_succ]
    refine wpAnyH_ready (rs := [5]) (by kernel_rfl) (by simp) ?_
    refine AllReadyH.cons (o := ⟨some 60, _, _, _, _, _⟩) rfl (fun K9 hK9 => ?_) AllReadyH.nil
    have hcur : Below wf.heap.size wf _ := hHeld; have fmk := HMK.out
    go_simp
    clear fmk
    refine hK9.out _ _ ?_ (fun hHeld => ?_)
    · exact ba hcur _
    clear hK9 K9
    try simp only [Act.put, List.setIfInBounds_toArray, List.set_cons_zero, List.set_cons_succ]
    refine wpAnyH_take (i := 6) (oi := ⟨some 61, _, _, _, _, _⟩) (v := ?_) rfl (by kernel_rfl) (by kernel_rfl) (by kernel_rfl) (fun _ _ _ h => h) (Or.inl ⟨by rfl, ?_⟩) (by assumption) ?_
    rotate_left
    · (intro w9 hSw; (try dsimp only at hSw); go_simp; try with_reducible rfl)
    try simp only [Act.put, List.setIfInBounds_toArray, List.set_cons_zero, List.set_cons_succ]
    refine wpAnyH_ready (rs := [7]) (by kernel_rfl) (by simp) ?_
    refine AllReadyH.cons (o := ⟨some 62, _, _, _, _, _⟩) rfl (fun K9 hK9 => ?_) AllReadyH.nil
    have hcu2 : Below wf.heap.size wf _ := hHeld
    go_simp; go_at_call 12
    refine (HSM.out (List.replicate q []) _ _ _ _ _ (HSN5.out.later hcu2) (SR.made (Blk.newAt rfl _ _)) (by simp)).mono ?_
    rintro e wg ⟨rfl, hbg⟩
    refine hK9.out _ _ ?_ (fun hHeld => ?_)
    · first | exact bt hcu2 hbg | exact (bt hcu2 hbg).drew
    clear hK9 K9
    try simp only [Act.put, List.setIfInBounds_toArray, List.set_cons_zero, List.set_cons_succ]
    refine wpAnyH_take (i := 8) (oi := ⟨some 63, _, _, _, _, _⟩) (v := .bool true) rfl (by kernel_rfl) (by kernel_rfl) (by kernel_rfl) (fun _ _ _ h => h) (Or.inl ⟨by rfl, ?_⟩) (by assumption) ?_
    · (intro w9 hSw; (try dsimp only at hSw); go_simp)
    try simp only [Act.put, List.setIfInBounds_toArray, List.set_cons_zero, List.set_cons_succ]
    refine wpAnyH_take (i := 9) (oi := ⟨some 6, _, _, _, _, _⟩) (v := .bool true) rfl (by kernel_rfl) (by kernel_rfl) (by kernel_rfl) (fun _ _ _ h => h) (Or.inl ⟨by rfl, ?_⟩) (by assumption) ?_
    · (intro w9 hSw; (try dsimp only at hSw); go_simp)
    try simp only [Act.put, List.setIfInBounds_toArray, List.set_cons_zero, List.set_cons_succ]
    refine wpAnyH_done (by kernel_rfl) ?_ _
    have hfin : Below wf.heap.size wf _ := hHeld
    have hB9 := bt HB5.out hfin
    clear hfin hHeld
    go_wp2
    go_ret
    exact ⟨rfl, hB9⟩

theorem dright_all (A1 B1 A2 B2 : Option Addr) (ca1 cb1 ca2 cb2 : Nat) (S1 S2 : List (List UInt8)) (C1 C2 : List PutL) (k : Int) (w : World) (hA1 : SR w A1 S1) (hB1 : PR w B1 C1) (hA2 : SR w A2 S2) (hB2 : PR w B2 C2) (hca1 : S1.length ≤ ca1) (hcb1 : C1.length ≤ cb1) (hca2 : S2.length ≤ ca2) (hcb2 : C2.length ≤ cb2) :
    Calls Try.prog 3 #[dv A1 S1.length ca1 B1 C1.length cb1, dv A2 S2.length ca2 B2 C2.length cb2, .int .i64 k] w fun e w' => e = .returned (.bool true) ∧ Below w.heap.size w w' := by
  have e1 : (S1.take 70).length = min S1.length 70 := by rw [List.length_take, Nat.min_comm]
  have e2 : (C1.take 65).length = min C1.length 65 := by rw [List.length_take, Nat.min_comm]
  have e3 : (S2.take 70).length = min S2.length 70 := by rw [List.length_take, Nat.min_comm]
  have e4 : (C2.take 65).length = min C2.length 65 := by rw [List.length_take, Nat.min_comm]
  by_cases h : 1 ≤ k ∧ k ≤ 64
  · obtain ⟨q, rfl⟩ : ∃ q : Nat, k = (q : Int) := ⟨k.toNat, by omega⟩
    exact dright_yes A1 B1 A2 B2 ca1 cb1 ca2 cb2 _ _ _ _ _ _ _ _ _ _ _ _ q w (hA1.take 70) (hB1.take 65) (hA2.take 70) (hB2.take 65) e1 e2 e3 e4 rfl rfl rfl rfl hca1 hcb1 hca2 hcb2 (by omega) (by omega)
  · exact dright_no A1 B1 A2 B2 ca1 cb1 ca2 cb2 _ _ _ _ _ _ _ _ _ _ _ _ k w (hA1.take 70) (hB1.take 65) (hA2.take 70) (hB2.take 65) e1 e2 e3 e4 rfl rfl rfl rfl hca1 hcb1 hca2 hcb2 h

set_option maxHeartbeats 1000000 in
set_option maxRecDepth 100000 in
theorem dright_lifted (os : Os) (started : os.Started) (H : Type) (enc : TypeId × Value → H) :
    ReturnsInHanded {} Try.checked os 3 .any (Rows.deviceRightSpec.pre6 enc Try.prog Try.f3 Rows.deviceRightRow.domain false) (Rows.deviceRightSpec.post enc Try.prog Try.f3 false true false false) := by
  refine returnsInHanded_of_change (C := Try.checked) Try.own started (by kernel_rfl) Try.func3
    (ChangeSpec.witness6 (enc := enc) (C := Try.checked) false ⟨#[], #[.agg #[.slice none 0 0, .slice none 0 0], .agg #[.slice none 0 0, .slice none 0 0], .int .i64 0], []⟩ 8 (by kernel_rfl) (by kernel_rfl) (by kernel_rfl) (by kernel_rfl)) ?_
  intro W base args ds gs before hval0 hW _ _
  have hval : ∀ (j : Nat) t v, Try.f3.params[j]? = some t → args[j]? = some v → Value.okWide Try.prog W .any base t v := hval0
  have hW' := hW
  obtain ⟨p, q, hA0, hV, rfl, _, _⟩ := hW
  have hA : DataW.TrodAll enc Try.prog W 0 (fun _ => true) true Try.f3.params.toList args.toList ds p := hA0
  rw [Try.params3] at hA hval
  obtain ⟨rfl, rfl⟩ := trodVars_none hV
  have hAk := hA
  obtain ⟨v0, v1, v2, d0, d1, d2, p0, p1, p2, rfl, rfl, hp, h0, h1, h2⟩ := trodAll_three hA
  have hlt : ∀ x ∈ p, x.block < W.heap.size := fun x hx => hW'.lt x (by simpa using hx)
  obtain ⟨A0, ca0, B0, cb0, S0, C0, rfl, hca0, hcb0, hS0, hC0, hA0, hB0⟩ := open_dev (hval 0 25 v0 rfl rfl) h0
  obtain ⟨A1, ca1, B1, cb1, S1, C1, rfl, hca1, hcb1, hS1, hC1, hA1, hB1⟩ := open_dev (hval 1 25 v1 rfl rfl) h1
  obtain ⟨n2, rfl, rfl, _, wn2⟩ := open_int Try.underlying3 (hval 2 3 v2 rfl rfl) h2
  have hi2 := i64_bounds wn2
  clear hA0 hval0
  refine (dright_all A0 B0 A1 B1 ca0 cb0 ca1 cb1 S0 S1 C0 C1 n2 W hS0 hC0 hS1 hC1 hca0 hcb0 hca1 hcb1).mono fun e W' ⟨he, hn⟩ => ?_
  subst he
  refine ⟨_, rfl, ?_⟩
  refine ⟨_, _, _, [], p, [], hW', ?_, trodAll_below_ Try.laidOut hn _ hAk (all_readable (by kernel_rfl)) hlt, rfl, hn.frame _, fun h => by cases h⟩
  exact trodAll_mk1 (shut_bool Try.underlying4 true)

/-- DeviceRight, for every input. -/
theorem dright_holds : Rows.DeviceRightSaid :=
  OpenClaim.holds_of_wide 3 Try.f3 rfl rfl rfl rfl rfl rfl rfl ⟨rfl, rfl, rfl, rfl, rfl⟩ rfl rfl rfl rfl rfl (by kernel_rfl) Try.func3 (by kernel_rfl)
    (of_decide_eq_true (by kernel_rfl)) (by unfold Func.isWrapper; rw [if_neg (of_decide_eq_false (by kernel_rfl))]; exact ⟨rfl, rfl⟩)
    (fun os started H enc _ => dright_lifted os started H enc)
#print axioms dright_holds
end Go.Proofs.Ytiibgbdhbamajaa
