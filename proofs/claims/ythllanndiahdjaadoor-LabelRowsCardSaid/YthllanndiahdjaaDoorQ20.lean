/- Texts of this seat, one behind the other: YItem. -/
import Derived.Test.YthllanndiahdjaaDoorQ19
/- The contracts of the reference's Item and Leaf. -/
namespace Go.Proofs.YthllanndiahdjaaDoor
open Go.RowKit

/-- An item's block, and its cells. -/
theorem yS_of {W : World} {g : Nat} {t : TypeId} {a b : Value} (h : Blk W g t #[a, b]) : Blk W g t #[a, b] ∧ W.cell? ⟨g, 0, none⟩ = some a ∧ W.cell? ⟨g, 1, none⟩ = some b := ⟨h, h.cell 0, h.cell 1⟩
theorem yS_next {g : Nat} {t : TypeId} {a b : Value} {W W1 : World} (hb : Below W.heap.size W W1) (h : Blk W g t #[a, b] ∧ W.cell? ⟨g, 0, none⟩ = some a ∧ W.cell? ⟨g, 1, none⟩ = some b) : Blk W1 g t #[a, b] ∧ W1.cell? ⟨g, 0, none⟩ = some a ∧ W1.cell? ⟨g, 1, none⟩ = some b := yS_of (h.1.below hb)
theorem yS_new {W : World} {g : Nat} {t : TypeId} {a b : Value} {o : Obj} (h : Blk W g t #[a, b]) : Blk (W.alloc o) g t #[a, b] ∧ (W.alloc o).cell? ⟨g, 0, none⟩ = some a ∧ (W.alloc o).cell? ⟨g, 1, none⟩ = some b := yS_of (h.alloc o)
theorem yS_newd {W : World} {g : Nat} {t : TypeId} {a b : Value} {o : Obj} (h : Blk W g t #[a, b]) : Blk (W.alloc o).drew g t #[a, b] ∧ (W.alloc o).drew.cell? ⟨g, 0, none⟩ = some a ∧ (W.alloc o).drew.cell? ⟨g, 1, none⟩ = some b := yS_of (W := (W.alloc o).drew) (h.alloc o)

set_option maxRecDepth 100000 in
set_option maxHeartbeats 2000000 in
theorem yritem_any (k : Nat) (s : List UInt8) (w : World) (hs : s.length ≤ 4096) (hk : k < 18446744073709551616) :
    Calls Tryd.prog 26 #[.agg #[.int .u64 (k : Int), sv s]] w fun e w' => e = .returned (.string ⟨(yitem (k, s)).toArray⟩) ∧ Below w.heap.size w w' := by
  have hb0 := ba (Below.refl w.heap.size w) (.cells #[.int .u64 (k : Int), sv s] 24)
  have hk0 := Blk.new w 24 #[.int .u64 (k : Int), sv s]
  have hk1 : Blk (w.alloc (.cells #[.int .u64 (k : Int), sv s] 24)).drew w.heap.size 24 #[.int .u64 (k : Int), sv s] := Blk.new w _ _
  have T1 := Lib.hid (fun W => show Calls Tryd.prog 31 #[.int .u64 (k : Int), .int .i64 8] W fun e w' => e = .returned (.string ⟨(low k 8).toArray⟩) ∧ Below W.heap.size W w' from rlow_any k 8 W (by omega) (by omega))
  have T2 := Lib.hid (fun W => show Calls Tryd.prog 45 #[.agg #[.bool true, .int .u64 0, sv s]] W fun e w' => e = .returned (.string ⟨(low s.length 2 ++ s).toArray⟩) ∧ Below W.heap.size W w' from one_text 0 s W hs)
  have l1 : (low k 8).length = 8 := low_length _ _
  have l2 : (low s.length 2 ++ s).length ≤ 5000 := by rw [List.length_append, low_length]; omega
  have HY : Hid (yitem (k, s) = [0] ++ low k 8 ++ (low s.length 2 ++ s)) := Lib.hid rfl
  rw [HY.out]
  clear HY hs hk
  generalize low k 8 = a at *
  generalize low s.length 2 ++ s = b at *
  have a1 : ∀ W : World, (Op.stringOp .add ⟨[(0 : UInt8)].toArray⟩ ⟨a.toArray⟩).run Tryd.prog W = .ok (.string ⟨([0] ++ a).toArray⟩) W := fun W => run_string_add_lists (P := Tryd.prog) W [0] a (by simp) (by omega)
  have a2 : ∀ W : World, (Op.stringOp .add ⟨([0] ++ a).toArray⟩ ⟨b.toArray⟩).run Tryd.prog W = .ok (.string ⟨([0] ++ a ++ b).toArray⟩) W := fun W => run_string_add_lists (P := Tryd.prog) W ([0] ++ a) b (by simp; omega) (by omega)
  generalize [0] ++ a ++ b = c at *
  generalize [0] ++ a = d at *
  clear l1 l2
  have hcv : ∀ W : World, (convert 57 9 (.slice (some ⟨W.heap.size, 0, none⟩) 1 1)).run Tryd.prog (W.alloc (.cells #[.int .u8 0] 5)) = .ok (.string ⟨[0].toArray⟩) (W.alloc (.cells #[.int .u8 0] 5)) := fun W => yone_new 0 W
  have hcd : (convert 57 9 (.slice (some ⟨w.heap.size + 1, 0, none⟩) 1 1)).run Tryd.prog ((w.alloc (.cells #[.int .u64 (k : Int), sv s] 24)).alloc (.cells #[.int .u8 0] 5)).drew = .ok (.string ⟨[0].toArray⟩) ((w.alloc (.cells #[.int .u64 (k : Int), sv s] 24)).alloc (.cells #[.int .u8 0] 5)).drew := by
    have := yone_drew 0 (w.alloc (.cells #[.int .u64 (k : Int), sv s] 24))
    rw [World.size_alloc] at this
    exact this
  go_enter Tryd.func26, Tryd.ntmps26
  go_wp2_with fail
  refine wp_region_held_drew (S := fun W => Blk W w.heap.size 24 #[.int .u64 (k : Int), sv s] ∧ W.cell? ⟨w.heap.size, 0, none⟩ = some (.int .u64 (k : Int)) ∧ W.cell? ⟨w.heap.size, 1, none⟩ = some (sv s)) (by kernel_rfl) (yS_of hk1) (fun hHeld => ?_)
  refine wpAnyH_take (i := 2) (oi := ⟨some 5, _, _, _, _, _⟩) (v := ?_) rfl (by kernel_rfl) (by kernel_rfl) (by kernel_rfl) (fun _ _ _ h => h) (Or.inl ⟨by rfl, ?_⟩) (by assumption) ?_
  rotate_left
  · (intro w9 hSw; (try dsimp only at hSw); go_simp; try with_reducible rfl)
  try simp only [Act.put, List.setIfInBounds_toArray, List.set_cons_zero, List.set_cons_succ]
  refine wpAnyH_take (i := 3) (oi := ⟨some 6, _, _, _, _, _⟩) (v := ?_) rfl (by kernel_rfl) (by kernel_rfl) (by kernel_rfl) (fun _ _ _ h => h) (Or.inl ⟨by rfl, ?_⟩) (by assumption) ?_
  rotate_left
  · (intro w9 hSw; (try dsimp only at hSw); obtain ⟨_, q0, q1⟩ := hSw; go_simp; try with_reducible rfl)
  try simp only [Act.put, List.setIfInBounds_toArray, List.set_cons_zero, List.set_cons_succ]
  refine wpAnyH_take (i := 6) (oi := ⟨some 9, _, _, _, _, _⟩) (v := ?_) rfl (by kernel_rfl) (by kernel_rfl) (by kernel_rfl) (fun _ _ _ h => h) (Or.inl ⟨by rfl, ?_⟩) (by assumption) ?_
  rotate_left
  · (intro w9 hSw; (try dsimp only at hSw); go_simp; try with_reducible rfl)
  try simp only [Act.put, List.setIfInBounds_toArray, List.set_cons_zero, List.set_cons_succ]
  refine wpAnyH_take (i := 7) (oi := ⟨some 10, _, _, _, _, _⟩) (v := ?_) rfl (by kernel_rfl) (by kernel_rfl) (by kernel_rfl) (fun _ _ _ h => h) (Or.inl ⟨by rfl, ?_⟩) (by assumption) ?_
  rotate_left
  · (intro w9 hSw; (try dsimp only at hSw); obtain ⟨_, q0, q1⟩ := hSw; go_simp; try with_reducible rfl)
  try simp only [Act.put, List.setIfInBounds_toArray, List.set_cons_zero, List.set_cons_succ]
  refine wpAnyH_take (i := 8) (oi := ⟨some 11, _, _, _, _, _⟩) (v := ?_) rfl (by kernel_rfl) (by kernel_rfl) (by kernel_rfl) (fun _ _ _ h => h) (Or.inl ⟨by rfl, ?_⟩) (by assumption) ?_
  rotate_left
  · (intro w9 hSw; (try dsimp only at hSw); go_simp; try with_reducible rfl)
  try simp only [Act.put, List.setIfInBounds_toArray, List.set_cons_zero, List.set_cons_succ]
  refine wpAnyH_ready (rs := [0, 4]) (by kernel_rfl) (by simp) ?_
  refine AllReadyH.cons (o := ⟨some 3, _, _, _, _, _⟩) rfl (fun K9 hK9 => ?_) ?_
  · skip
    go_simp
    refine hK9.out _ _ ?_ (fun hHeld => ?_)
    · first | exact yS_newd hk0 | exact yS_new hS2.1 | exact yS_new hS1.1
    clear hK9 K9
    try simp only [Act.put, List.setIfInBounds_toArray, List.set_cons_zero, List.set_cons_succ]
    refine wpAnyH_ready (rs := [1, 4]) (by kernel_rfl) (by simp) ?_
    refine AllReadyH.cons (o := ⟨some 4, _, _, _, _, _⟩) rfl (fun K9 hK9 => ?_) ?_
    · skip
      skip
      go_simp
      refine hK9.out _ _ ?_ (fun hHeld => ?_)
      · assumption
      clear hK9 K9
      try simp only [Act.put, List.setIfInBounds_toArray, List.set_cons_zero, List.set_cons_succ]
      refine wpAnyH_ready (rs := [4]) (by kernel_rfl) (by simp) ?_
      refine AllReadyH.cons (o := ⟨some 7, _, _, _, _, _⟩) rfl (fun K9 hK9 => ?_) AllReadyH.nil
      go_simp; go_at_call 31
      refine (T1.out _).mono ?_
      rintro e w1 ⟨rfl, hb1⟩
      have hS1 := yS_next (g := w.heap.size) (t := 24) (a := .int .u64 (k : Int)) (b := sv s) hb1 (by assumption)
      have hbw := bt (show Below w.heap.size w _ by first | exact hb0.drew | exact (ba hb0 _).drew) hb1
      (try have hq1 := Blk.below (show Blk (World.drew (World.alloc _ _)) _ 5 #[.int .u8 0] from Blk.new _ _ _) hb1)
      (try have hc1 := yone_at 0 _ _ (hq1.cell 0))
      (try rw [World.size_alloc] at hc1)
      refine hK9.out _ _ ?_ (fun hHeld => ?_)
      · assumption
      clear hK9 K9
      try simp only [Act.put, List.setIfInBounds_toArray, List.set_cons_zero, List.set_cons_succ]
      refine wpAnyH_take (i := 5) (oi := ⟨some 8, _, _, _, _, _⟩) (v := ?_) rfl (by kernel_rfl) (by kernel_rfl) (by kernel_rfl) (fun _ _ _ h => h) (Or.inl ⟨by rfl, ?_⟩) (by assumption) ?_
      rotate_left
      · (intro w9 hSw; (try dsimp only at hSw); go_simp; try with_reducible rfl)
      try simp only [Act.put, List.setIfInBounds_toArray, List.set_cons_zero, List.set_cons_succ]
      refine wpAnyH_ready (rs := [9]) (by kernel_rfl) (by simp) ?_
      refine AllReadyH.cons (o := ⟨some 12, _, _, _, _, _⟩) rfl (fun K9 hK9 => ?_) AllReadyH.nil
      go_simp; go_at_call 45
      refine (T2.out _).mono ?_
      rintro e w2 ⟨rfl, hb2⟩
      have hS2 := yS_next (g := w.heap.size) (t := 24) (a := .int .u64 (k : Int)) (b := sv s) hb2 (by assumption)
      have hbw2 := bt (show Below w.heap.size w _ by first | exact hbw | exact ba hbw _) hb2
      (try have hq2 := hq1.below hb2)
      (try have hq3 := (Blk.new w1 5 #[.int .u8 0]).below hb2)
      (try have hc2 := yone_at 0 _ _ (hq2.cell 0))
      (try rw [World.size_alloc] at hc2)
      (try have hc3 := yone_at 0 _ _ (hq3.cell 0))
      refine hK9.out _ _ ?_ (fun hHeld => ?_)
      · assumption
      clear hK9 K9
      try simp only [Act.put, List.setIfInBounds_toArray, List.set_cons_zero, List.set_cons_succ]
      refine wpAnyH_take (i := 10) (oi := ⟨some 13, _, _, _, _, _⟩) (v := ?_) rfl (by kernel_rfl) (by kernel_rfl) (by kernel_rfl) (fun _ _ _ h => h) (Or.inl ⟨by rfl, ?_⟩) (by assumption) ?_
      rotate_left
      · (intro w9 hSw; (try dsimp only at hSw); go_simp; try with_reducible rfl)
      try simp only [Act.put, List.setIfInBounds_toArray, List.set_cons_zero, List.set_cons_succ]
      refine wpAnyH_take (i := 11) (oi := ⟨some 2, _, _, _, _, _⟩) (v := ?_) rfl (by kernel_rfl) (by kernel_rfl) (by kernel_rfl) (fun _ _ _ h => h) (Or.inl ⟨by rfl, ?_⟩) (by assumption) ?_
      rotate_left
      · (intro w9 hSw; (try dsimp only at hSw); go_simp; try with_reducible rfl)
      try simp only [Act.put, List.setIfInBounds_toArray, List.set_cons_zero, List.set_cons_succ]
      refine wpAnyH_done (by kernel_rfl) ?_ _
      simp only [Exit.then]
      go_at_K
      go_wp2_with fail
      go_ret
      first | exact ⟨rfl, hbw2⟩ | exact ⟨rfl, ba hbw2 _⟩
    refine AllReadyH.cons (o := ⟨some 7, _, _, _, _, _⟩) rfl (fun K9 hK9 => ?_) AllReadyH.nil
    · skip
      go_simp; go_at_call 31
      refine (T1.out _).mono ?_
      rintro e w1 ⟨rfl, hb1⟩
      have hS1 := yS_next (g := w.heap.size) (t := 24) (a := .int .u64 (k : Int)) (b := sv s) hb1 (by assumption)
      have hbw := bt (show Below w.heap.size w _ by first | exact hb0.drew | exact (ba hb0 _).drew) hb1
      (try have hq1 := Blk.below (show Blk (World.drew (World.alloc _ _)) _ 5 #[.int .u8 0] from Blk.new _ _ _) hb1)
      (try have hc1 := yone_at 0 _ _ (hq1.cell 0))
      (try rw [World.size_alloc] at hc1)
      refine hK9.out _ _ ?_ (fun hHeld => ?_)
      · assumption
      clear hK9 K9
      try simp only [Act.put, List.setIfInBounds_toArray, List.set_cons_zero, List.set_cons_succ]
      refine wpAnyH_ready (rs := [1, 9]) (by kernel_rfl) (by simp) ?_
      refine AllReadyH.cons (o := ⟨some 4, _, _, _, _, _⟩) rfl (fun K9 hK9 => ?_) ?_
      · skip
        skip
        go_simp
        refine hK9.out _ _ ?_ (fun hHeld => ?_)
        · assumption
        clear hK9 K9
        try simp only [Act.put, List.setIfInBounds_toArray, List.set_cons_zero, List.set_cons_succ]
        refine wpAnyH_take (i := 5) (oi := ⟨some 8, _, _, _, _, _⟩) (v := ?_) rfl (by kernel_rfl) (by kernel_rfl) (by kernel_rfl) (fun _ _ _ h => h) (Or.inl ⟨by rfl, ?_⟩) (by assumption) ?_
        rotate_left
        · (intro w9 hSw; (try dsimp only at hSw); go_simp; try with_reducible rfl)
        try simp only [Act.put, List.setIfInBounds_toArray, List.set_cons_zero, List.set_cons_succ]
        refine wpAnyH_ready (rs := [9]) (by kernel_rfl) (by simp) ?_
        refine AllReadyH.cons (o := ⟨some 12, _, _, _, _, _⟩) rfl (fun K9 hK9 => ?_) AllReadyH.nil
        go_simp; go_at_call 45
        refine (T2.out _).mono ?_
        rintro e w2 ⟨rfl, hb2⟩
        have hS2 := yS_next (g := w.heap.size) (t := 24) (a := .int .u64 (k : Int)) (b := sv s) hb2 (by assumption)
        have hbw2 := bt (show Below w.heap.size w _ by first | exact hbw | exact ba hbw _) hb2
        (try have hq2 := hq1.below hb2)
        (try have hq3 := (Blk.new w1 5 #[.int .u8 0]).below hb2)
        (try have hc2 := yone_at 0 _ _ (hq2.cell 0))
        (try rw [World.size_alloc] at hc2)
        (try have hc3 := yone_at 0 _ _ (hq3.cell 0))
        refine hK9.out _ _ ?_ (fun hHeld => ?_)
        · assumption
        clear hK9 K9
        try simp only [Act.put, List.setIfInBounds_toArray, List.set_cons_zero, List.set_cons_succ]
        refine wpAnyH_take (i := 10) (oi := ⟨some 13, _, _, _, _, _⟩) (v := ?_) rfl (by kernel_rfl) (by kernel_rfl) (by kernel_rfl) (fun _ _ _ h => h) (Or.inl ⟨by rfl, ?_⟩) (by assumption) ?_
        rotate_left
        · (intro w9 hSw; (try dsimp only at hSw); go_simp; try with_reducible rfl)
        try simp only [Act.put, List.setIfInBounds_toArray, List.set_cons_zero, List.set_cons_succ]
        refine wpAnyH_take (i := 11) (oi := ⟨some 2, _, _, _, _, _⟩) (v := ?_) rfl (by kernel_rfl) (by kernel_rfl) (by kernel_rfl) (fun _ _ _ h => h) (Or.inl ⟨by rfl, ?_⟩) (by assumption) ?_
        rotate_left
        · (intro w9 hSw; (try dsimp only at hSw); go_simp; try with_reducible rfl)
        try simp only [Act.put, List.setIfInBounds_toArray, List.set_cons_zero, List.set_cons_succ]
        refine wpAnyH_done (by kernel_rfl) ?_ _
        simp only [Exit.then]
        go_at_K
        go_wp2_with fail
        go_ret
        first | exact ⟨rfl, hbw2⟩ | exact ⟨rfl, ba hbw2 _⟩
      refine AllReadyH.cons (o := ⟨some 12, _, _, _, _, _⟩) rfl (fun K9 hK9 => ?_) AllReadyH.nil
      · skip
        go_simp; go_at_call 45
        refine (T2.out _).mono ?_
        rintro e w2 ⟨rfl, hb2⟩
        have hS2 := yS_next (g := w.heap.size) (t := 24) (a := .int .u64 (k : Int)) (b := sv s) hb2 (by assumption)
        have hbw2 := bt (show Below w.heap.size w _ by first | exact hbw | exact ba hbw _) hb2
        (try have hq2 := hq1.below hb2)
        (try have hq3 := (Blk.new w1 5 #[.int .u8 0]).below hb2)
        (try have hc2 := yone_at 0 _ _ (hq2.cell 0))
        (try rw [World.size_alloc] at hc2)
        (try have hc3 := yone_at 0 _ _ (hq3.cell 0))
        refine hK9.out _ _ ?_ (fun hHeld => ?_)
        · assumption
        clear hK9 K9
        try simp only [Act.put, List.setIfInBounds_toArray, List.set_cons_zero, List.set_cons_succ]
        refine wpAnyH_ready (rs := [1]) (by kernel_rfl) (by simp) ?_
        refine AllReadyH.cons (o := ⟨some 4, _, _, _, _, _⟩) rfl (fun K9 hK9 => ?_) AllReadyH.nil
        skip
        go_simp
        refine hK9.out _ _ ?_ (fun hHeld => ?_)
        · assumption
        clear hK9 K9
        try simp only [Act.put, List.setIfInBounds_toArray, List.set_cons_zero, List.set_cons_succ]
        refine wpAnyH_take (i := 5) (oi := ⟨some 8, _, _, _, _, _⟩) (v := ?_) rfl (by kernel_rfl) (by kernel_rfl) (by kernel_rfl) (fun _ _ _ h => h) (Or.inl ⟨by rfl, ?_⟩) (by assumption) ?_
        rotate_left
        · (intro w9 hSw; (try dsimp only at hSw); go_simp; try with_reducible rfl)
        try simp only [Act.put, List.setIfInBounds_toArray, List.set_cons_zero, List.set_cons_succ]
        refine wpAnyH_take (i := 10) (oi := ⟨some 13, _, _, _, _, _⟩) (v := ?_) rfl (by kernel_rfl) (by kernel_rfl) (by kernel_rfl) (fun _ _ _ h => h) (Or.inl ⟨by rfl, ?_⟩) (by assumption) ?_
        rotate_left
        · (intro w9 hSw; (try dsimp only at hSw); go_simp; try with_reducible rfl)
        try simp only [Act.put, List.setIfInBounds_toArray, List.set_cons_zero, List.set_cons_succ]
        refine wpAnyH_take (i := 11) (oi := ⟨some 2, _, _, _, _, _⟩) (v := ?_) rfl (by kernel_rfl) (by kernel_rfl) (by kernel_rfl) (fun _ _ _ h => h) (Or.inl ⟨by rfl, ?_⟩) (by assumption) ?_
        rotate_left
        · (intro w9 hSw; (try dsimp only at hSw); go_simp; try with_reducible rfl)
        try simp only [Act.put, List.setIfInBounds_toArray, List.set_cons_zero, List.set_cons_succ]
        refine wpAnyH_done (by kernel_rfl) ?_ _
        simp only [Exit.then]
        go_at_K
        go_wp2_with fail
        go_ret
        first | exact ⟨rfl, hbw2⟩ | exact ⟨rfl, ba hbw2 _⟩
  refine AllReadyH.cons (o := ⟨some 7, _, _, _, _, _⟩) rfl (fun K9 hK9 => ?_) AllReadyH.nil
  · skip
    go_simp; go_at_call 31
    refine (T1.out _).mono ?_
    rintro e w1 ⟨rfl, hb1⟩
    have hS1 := yS_next (g := w.heap.size) (t := 24) (a := .int .u64 (k : Int)) (b := sv s) hb1 (by assumption)
    have hbw := bt (show Below w.heap.size w _ by first | exact hb0.drew | exact (ba hb0 _).drew) hb1
    (try have hq1 := Blk.below (show Blk (World.drew (World.alloc _ _)) _ 5 #[.int .u8 0] from Blk.new _ _ _) hb1)
    (try have hc1 := yone_at 0 _ _ (hq1.cell 0))
    (try rw [World.size_alloc] at hc1)
    refine hK9.out _ _ ?_ (fun hHeld => ?_)
    · assumption
    clear hK9 K9
    try simp only [Act.put, List.setIfInBounds_toArray, List.set_cons_zero, List.set_cons_succ]
    refine wpAnyH_ready (rs := [0, 9]) (by kernel_rfl) (by simp) ?_
    refine AllReadyH.cons (o := ⟨some 3, _, _, _, _, _⟩) rfl (fun K9 hK9 => ?_) ?_
    · skip
      go_simp
      refine hK9.out _ _ ?_ (fun hHeld => ?_)
      · first | exact yS_newd hk0 | exact yS_new hS2.1 | exact yS_new hS1.1
      clear hK9 K9
      try simp only [Act.put, List.setIfInBounds_toArray, List.set_cons_zero, List.set_cons_succ]
      refine wpAnyH_ready (rs := [1, 9]) (by kernel_rfl) (by simp) ?_
      refine AllReadyH.cons (o := ⟨some 4, _, _, _, _, _⟩) rfl (fun K9 hK9 => ?_) ?_
      · skip
        skip
        go_simp
        refine hK9.out _ _ ?_ (fun hHeld => ?_)
        · assumption
        clear hK9 K9
        try simp only [Act.put, List.setIfInBounds_toArray, List.set_cons_zero, List.set_cons_succ]
        refine wpAnyH_take (i := 5) (oi := ⟨some 8, _, _, _, _, _⟩) (v := ?_) rfl (by kernel_rfl) (by kernel_rfl) (by kernel_rfl) (fun _ _ _ h => h) (Or.inl ⟨by rfl, ?_⟩) (by assumption) ?_
        rotate_left
        · (intro w9 hSw; (try dsimp only at hSw); go_simp; try with_reducible rfl)
        try simp only [Act.put, List.setIfInBounds_toArray, List.set_cons_zero, List.set_cons_succ]
        refine wpAnyH_ready (rs := [9]) (by kernel_rfl) (by simp) ?_
        refine AllReadyH.cons (o := ⟨some 12, _, _, _, _, _⟩) rfl (fun K9 hK9 => ?_) AllReadyH.nil
        go_simp; go_at_call 45
        refine (T2.out _).mono ?_
        rintro e w2 ⟨rfl, hb2⟩
        have hS2 := yS_next (g := w.heap.size) (t := 24) (a := .int .u64 (k : Int)) (b := sv s) hb2 (by assumption)
        have hbw2 := bt (show Below w.heap.size w _ by first | exact hbw | exact ba hbw _) hb2
        (try have hq2 := hq1.below hb2)
        (try have hq3 := (Blk.new w1 5 #[.int .u8 0]).below hb2)
        (try have hc2 := yone_at 0 _ _ (hq2.cell 0))
        (try rw [World.size_alloc] at hc2)
        (try have hc3 := yone_at 0 _ _ (hq3.cell 0))
        refine hK9.out _ _ ?_ (fun hHeld => ?_)
        · assumption
        clear hK9 K9
        try simp only [Act.put, List.setIfInBounds_toArray, List.set_cons_zero, List.set_cons_succ]
        refine wpAnyH_take (i := 10) (oi := ⟨some 13, _, _, _, _, _⟩) (v := ?_) rfl (by kernel_rfl) (by kernel_rfl) (by kernel_rfl) (fun _ _ _ h => h) (Or.inl ⟨by rfl, ?_⟩) (by assumption) ?_
        rotate_left
        · (intro w9 hSw; (try dsimp only at hSw); go_simp; try with_reducible rfl)
        try simp only [Act.put, List.setIfInBounds_toArray, List.set_cons_zero, List.set_cons_succ]
        refine wpAnyH_take (i := 11) (oi := ⟨some 2, _, _, _, _, _⟩) (v := ?_) rfl (by kernel_rfl) (by kernel_rfl) (by kernel_rfl) (fun _ _ _ h => h) (Or.inl ⟨by rfl, ?_⟩) (by assumption) ?_
        rotate_left
        · (intro w9 hSw; (try dsimp only at hSw); go_simp; try with_reducible rfl)
        try simp only [Act.put, List.setIfInBounds_toArray, List.set_cons_zero, List.set_cons_succ]
        refine wpAnyH_done (by kernel_rfl) ?_ _
        simp only [Exit.then]
        go_at_K
        go_wp2_with fail
        go_ret
        first | exact ⟨rfl, hbw2⟩ | exact ⟨rfl, ba hbw2 _⟩
      refine AllReadyH.cons (o := ⟨some 12, _, _, _, _, _⟩) rfl (fun K9 hK9 => ?_) AllReadyH.nil
      · skip
        go_simp; go_at_call 45
        refine (T2.out _).mono ?_
        rintro e w2 ⟨rfl, hb2⟩
        have hS2 := yS_next (g := w.heap.size) (t := 24) (a := .int .u64 (k : Int)) (b := sv s) hb2 (by assumption)
        have hbw2 := bt (show Below w.heap.size w _ by first | exact hbw | exact ba hbw _) hb2
        (try have hq2 := hq1.below hb2)
        (try have hq3 := (Blk.new w1 5 #[.int .u8 0]).below hb2)
        (try have hc2 := yone_at 0 _ _ (hq2.cell 0))
        (try rw [World.size_alloc] at hc2)
        (try have hc3 := yone_at 0 _ _ (hq3.cell 0))
        refine hK9.out _ _ ?_ (fun hHeld => ?_)
        · assumption
        clear hK9 K9
        try simp only [Act.put, List.setIfInBounds_toArray, List.set_cons_zero, List.set_cons_succ]
        refine wpAnyH_ready (rs := [1]) (by kernel_rfl) (by simp) ?_
        refine AllReadyH.cons (o := ⟨some 4, _, _, _, _, _⟩) rfl (fun K9 hK9 => ?_) AllReadyH.nil
        skip
        go_simp
        refine hK9.out _ _ ?_ (fun hHeld => ?_)
        · assumption
        clear hK9 K9
        try simp only [Act.put, List.setIfInBounds_toArray, List.set_cons_zero, List.set_cons_succ]
        refine wpAnyH_take (i := 5) (oi := ⟨some 8, _, _, _, _, _⟩) (v := ?_) rfl (by kernel_rfl) (by kernel_rfl) (by kernel_rfl) (fun _ _ _ h => h) (Or.inl ⟨by rfl, ?_⟩) (by assumption) ?_
        rotate_left
        · (intro w9 hSw; (try dsimp only at hSw); go_simp; try with_reducible rfl)
        try simp only [Act.put, List.setIfInBounds_toArray, List.set_cons_zero, List.set_cons_succ]
        refine wpAnyH_take (i := 10) (oi := ⟨some 13, _, _, _, _, _⟩) (v := ?_) rfl (by kernel_rfl) (by kernel_rfl) (by kernel_rfl) (fun _ _ _ h => h) (Or.inl ⟨by rfl, ?_⟩) (by assumption) ?_
        rotate_left
        · (intro w9 hSw; (try dsimp only at hSw); go_simp; try with_reducible rfl)
        try simp only [Act.put, List.setIfInBounds_toArray, List.set_cons_zero, List.set_cons_succ]
        refine wpAnyH_take (i := 11) (oi := ⟨some 2, _, _, _, _, _⟩) (v := ?_) rfl (by kernel_rfl) (by kernel_rfl) (by kernel_rfl) (fun _ _ _ h => h) (Or.inl ⟨by rfl, ?_⟩) (by assumption) ?_
        rotate_left
        · (intro w9 hSw; (try dsimp only at hSw); go_simp; try with_reducible rfl)
        try simp only [Act.put, List.setIfInBounds_toArray, List.set_cons_zero, List.set_cons_succ]
        refine wpAnyH_done (by kernel_rfl) ?_ _
        simp only [Exit.then]
        go_at_K
        go_wp2_with fail
        go_ret
        first | exact ⟨rfl, hbw2⟩ | exact ⟨rfl, ba hbw2 _⟩
    refine AllReadyH.cons (o := ⟨some 12, _, _, _, _, _⟩) rfl (fun K9 hK9 => ?_) AllReadyH.nil
    · skip
      go_simp; go_at_call 45
      refine (T2.out _).mono ?_
      rintro e w2 ⟨rfl, hb2⟩
      have hS2 := yS_next (g := w.heap.size) (t := 24) (a := .int .u64 (k : Int)) (b := sv s) hb2 (by assumption)
      have hbw2 := bt (show Below w.heap.size w _ by first | exact hbw | exact ba hbw _) hb2
      (try have hq2 := hq1.below hb2)
      (try have hq3 := (Blk.new w1 5 #[.int .u8 0]).below hb2)
      (try have hc2 := yone_at 0 _ _ (hq2.cell 0))
      (try rw [World.size_alloc] at hc2)
      (try have hc3 := yone_at 0 _ _ (hq3.cell 0))
      refine hK9.out _ _ ?_ (fun hHeld => ?_)
      · assumption
      clear hK9 K9
      try simp only [Act.put, List.setIfInBounds_toArray, List.set_cons_zero, List.set_cons_succ]
      refine wpAnyH_ready (rs := [0]) (by kernel_rfl) (by simp) ?_
      refine AllReadyH.cons (o := ⟨some 3, _, _, _, _, _⟩) rfl (fun K9 hK9 => ?_) AllReadyH.nil
      go_simp
      refine hK9.out _ _ ?_ (fun hHeld => ?_)
      · first | exact yS_newd hk0 | exact yS_new hS2.1 | exact yS_new hS1.1
      clear hK9 K9
      try simp only [Act.put, List.setIfInBounds_toArray, List.set_cons_zero, List.set_cons_succ]
      refine wpAnyH_ready (rs := [1]) (by kernel_rfl) (by simp) ?_
      refine AllReadyH.cons (o := ⟨some 4, _, _, _, _, _⟩) rfl (fun K9 hK9 => ?_) AllReadyH.nil
      skip
      go_simp
      refine hK9.out _ _ ?_ (fun hHeld => ?_)
      · assumption
      clear hK9 K9
      try simp only [Act.put, List.setIfInBounds_toArray, List.set_cons_zero, List.set_cons_succ]
      refine wpAnyH_take (i := 5) (oi := ⟨some 8, _, _, _, _, _⟩) (v := ?_) rfl (by kernel_rfl) (by kernel_rfl) (by kernel_rfl) (fun _ _ _ h => h) (Or.inl ⟨by rfl, ?_⟩) (by assumption) ?_
      rotate_left
      · (intro w9 hSw; (try dsimp only at hSw); go_simp; try with_reducible rfl)
      try simp only [Act.put, List.setIfInBounds_toArray, List.set_cons_zero, List.set_cons_succ]
      refine wpAnyH_take (i := 10) (oi := ⟨some 13, _, _, _, _, _⟩) (v := ?_) rfl (by kernel_rfl) (by kernel_rfl) (by kernel_rfl) (fun _ _ _ h => h) (Or.inl ⟨by rfl, ?_⟩) (by assumption) ?_
      rotate_left
      · (intro w9 hSw; (try dsimp only at hSw); go_simp; try with_reducible rfl)
      try simp only [Act.put, List.setIfInBounds_toArray, List.set_cons_zero, List.set_cons_succ]
      refine wpAnyH_take (i := 11) (oi := ⟨some 2, _, _, _, _, _⟩) (v := ?_) rfl (by kernel_rfl) (by kernel_rfl) (by kernel_rfl) (fun _ _ _ h => h) (Or.inl ⟨by rfl, ?_⟩) (by assumption) ?_
      rotate_left
      · (intro w9 hSw; (try dsimp only at hSw); go_simp; try with_reducible rfl)
      try simp only [Act.put, List.setIfInBounds_toArray, List.set_cons_zero, List.set_cons_succ]
      refine wpAnyH_done (by kernel_rfl) ?_ _
      simp only [Exit.then]
      go_at_K
      go_wp2_with fail
      go_ret
      first | exact ⟨rfl, hbw2⟩ | exact ⟨rfl, ba hbw2 _⟩

set_option maxRecDepth 100000 in
set_option maxHeartbeats 1000000 in
theorem yrleaf_any (k : Nat) (s : List UInt8) (w : World) (hs : s.length ≤ 4096) (hk : k < 18446744073709551616) :
    Calls Tryd.prog 9 #[.agg #[.int .u64 (k : Int), sv s]] w fun e w' => e = .returned (.string ⟨(yleaf (k, s)).toArray⟩) ∧ Below w.heap.size w w' := by
  have hb0 := ba (Below.refl w.heap.size w) (.cells #[.int .u64 (k : Int), sv s] 24)
  have T1 := Lib.hid (fun W => yritem_any k s W hs hk)
  have T2 := Lib.hid (fun W => hrsum_any rwords_holds (yitem (k, s)) W (by rw [yitem_len]; simp only; omega))
  have HZ : Hid (yleaf (k, s) = hsumL (yitem (k, s))) := Lib.hid rfl
  rw [HZ.out]
  clear HZ hs hk
  generalize hsumL (yitem (k, s)) = h at *
  generalize yitem (k, s) = t at *
  go_enter Tryd.func9, Tryd.ntmps9
  go_wp2_with fail
  refine (T1.out _).mono ?_
  rintro e w1 ⟨rfl, hb1⟩
  have hb2 := bt hb0 hb1
  go_wp2_with fail
  refine (T2.out _).mono ?_
  rintro e w2 ⟨rfl, hb3⟩
  have hb4 := bt hb2 hb3
  go_wp2
  go_ret
  exact ⟨rfl, hb4⟩
end Go.Proofs.YthllanndiahdjaaDoor
