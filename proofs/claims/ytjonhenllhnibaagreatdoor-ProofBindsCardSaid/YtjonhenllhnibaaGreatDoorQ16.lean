/- Texts of this seat, one behind the other: YItem, YLaw, YOwn. -/
import Derived.Test.YtjonhenllhnibaaGreatDoorQ13
import Derived.Test.YtjonhenllhnibaaGreatDoorQ15
/- The contracts of the reference's Item and Leaf. -/
namespace Go.Proofs.YtjonhenllhnibaaGreatDoor
open Go.RowKit

/-- An item's block, and its cells. -/
theorem yS_of {W : World} {g : Nat} {t : TypeId} {a b : Value} (h : Blk W g t #[a, b]) : Blk W g t #[a, b] ∧ W.cell? ⟨g, 0, none⟩ = some a ∧ W.cell? ⟨g, 1, none⟩ = some b := ⟨h, h.cell 0, h.cell 1⟩
theorem yS_next {g : Nat} {t : TypeId} {a b : Value} {W W1 : World} (hb : Below W.heap.size W W1) (h : Blk W g t #[a, b] ∧ W.cell? ⟨g, 0, none⟩ = some a ∧ W.cell? ⟨g, 1, none⟩ = some b) : Blk W1 g t #[a, b] ∧ W1.cell? ⟨g, 0, none⟩ = some a ∧ W1.cell? ⟨g, 1, none⟩ = some b := yS_of (h.1.below hb)
theorem yS_new {W : World} {g : Nat} {t : TypeId} {a b : Value} {o : Obj} (h : Blk W g t #[a, b]) : Blk (W.alloc o) g t #[a, b] ∧ (W.alloc o).cell? ⟨g, 0, none⟩ = some a ∧ (W.alloc o).cell? ⟨g, 1, none⟩ = some b := yS_of (h.alloc o)
theorem yS_newd {W : World} {g : Nat} {t : TypeId} {a b : Value} {o : Obj} (h : Blk W g t #[a, b]) : Blk (W.alloc o).drew g t #[a, b] ∧ (W.alloc o).drew.cell? ⟨g, 0, none⟩ = some a ∧ (W.alloc o).drew.cell? ⟨g, 1, none⟩ = some b := yS_of (W := (W.alloc o).drew) (h.alloc o)

set_option maxRecDepth 100000 in
set_option maxHeartbeats 2000000 in
theorem yritem_any (k : Nat) (s : List UInt8) (w : World) (hs : s.length ≤ 4096) (hk : k < 18446744073709551616) :
    Calls Tryz.prog 46 #[.agg #[.int .u64 (k : Int), sv s]] w fun e w' => e = .returned (.string ⟨(yitem (k, s)).toArray⟩) ∧ Below w.heap.size w w' := by
  have hb0 := ba (Below.refl w.heap.size w) (.cells #[.int .u64 (k : Int), sv s] 42)
  have hk0 := Blk.new w 42 #[.int .u64 (k : Int), sv s]
  have hk1 : Blk (w.alloc (.cells #[.int .u64 (k : Int), sv s] 42)).drew w.heap.size 42 #[.int .u64 (k : Int), sv s] := Blk.new w _ _
  have T1 := Lib.hid (fun W => show Calls Tryz.prog 72 #[.int .u64 (k : Int), .int .i64 8] W fun e w' => e = .returned (.string ⟨(low k 8).toArray⟩) ∧ Below W.heap.size W w' from rlow_any k 8 W (by omega) (by omega))
  have T2 := Lib.hid (fun W => show Calls Tryz.prog 73 #[.agg #[.bool true, .int .u64 0, sv s]] W fun e w' => e = .returned (.string ⟨(low s.length 2 ++ s).toArray⟩) ∧ Below W.heap.size W w' from one_text 0 s W hs)
  have l1 : (low k 8).length = 8 := low_length _ _
  have l2 : (low s.length 2 ++ s).length ≤ 5000 := by rw [List.length_append, low_length]; omega
  have HY : Hid (yitem (k, s) = [0] ++ low k 8 ++ (low s.length 2 ++ s)) := Lib.hid rfl
  rw [HY.out]
  clear HY hs hk
  generalize low k 8 = a at *
  generalize low s.length 2 ++ s = b at *
  have a1 : ∀ W : World, (Op.stringOp .add ⟨[(0 : UInt8)].toArray⟩ ⟨a.toArray⟩).run Tryz.prog W = .ok (.string ⟨([0] ++ a).toArray⟩) W := fun W => run_string_add_lists (P := Tryz.prog) W [0] a (by simp) (by omega)
  have a2 : ∀ W : World, (Op.stringOp .add ⟨([0] ++ a).toArray⟩ ⟨b.toArray⟩).run Tryz.prog W = .ok (.string ⟨([0] ++ a ++ b).toArray⟩) W := fun W => run_string_add_lists (P := Tryz.prog) W ([0] ++ a) b (by simp; omega) (by omega)
  generalize [0] ++ a ++ b = c at *
  generalize [0] ++ a = d at *
  clear l1 l2
  have hcv : ∀ W : World, (convert 90 9 (.slice (some ⟨W.heap.size, 0, none⟩) 1 1)).run Tryz.prog (W.alloc (.cells #[.int .u8 0] 5)) = .ok (.string ⟨[0].toArray⟩) (W.alloc (.cells #[.int .u8 0] 5)) := fun W => yone_new 0 W
  have hcd : (convert 90 9 (.slice (some ⟨w.heap.size + 1, 0, none⟩) 1 1)).run Tryz.prog ((w.alloc (.cells #[.int .u64 (k : Int), sv s] 42)).alloc (.cells #[.int .u8 0] 5)).drew = .ok (.string ⟨[0].toArray⟩) ((w.alloc (.cells #[.int .u64 (k : Int), sv s] 42)).alloc (.cells #[.int .u8 0] 5)).drew := by
    have := yone_drew 0 (w.alloc (.cells #[.int .u64 (k : Int), sv s] 42))
    rw [World.size_alloc] at this
    exact this
  go_enter Tryz.func46, Tryz.ntmps46
  go_wp2_with fail
  refine wp_region_held_drew (S := fun W => Blk W w.heap.size 42 #[.int .u64 (k : Int), sv s] ∧ W.cell? ⟨w.heap.size, 0, none⟩ = some (.int .u64 (k : Int)) ∧ W.cell? ⟨w.heap.size, 1, none⟩ = some (sv s)) (by kernel_rfl) (yS_of hk1) (fun hHeld => ?_)
  refine wpAnyH_take (i := 2) (oi := ⟨some 5, _, _, _, _, _⟩) (v := ?_) rfl (by kernel_rfl) (by kernel_rfl) (by kernel_rfl) (fun _ _ _ h => h) (Or.inl ⟨by rfl, ?_⟩) (by assumption) ?_
  rotate_left
  · (intro w9 hSw; (try dsimp only at hSw); go_simp; try with_reducible rfl)
  try simp only [Act.put, List.setIfInBounds_toArray, List.set_cons_zero, List.set_cons_succ]
  refine wpAnyH_take (i := 3) (oi := ⟨some 6, _, _, _, _, _⟩) (v := ?_) rfl (by kernel_rfl) (by kernel_rfl) (by kernel_rfl) (fun _ _ _ h => h) (Or.inl ⟨by rfl, ?_⟩) (by assumption) ?_
  rotate_left
  · (intro w9 hSw; (try dsimp only at hSw); obtain ⟨_, q0, q1⟩ := hSw; go_simp; try with_reducible rfl)
  try simp only [Act.put, List.setIfInBounds_toArray, List.set_cons_zero, List.set_cons_succ]
  refine wpAnyH_take (i := 6) (oi := ⟨some 9, _, _, _, _, _⟩) (v := ?_) rfl (by kernel_rfl) (by kernel_rfl) (by kernel_rfl) (fun _ _ _ h => h) (Or.inl ⟨by rfl, ?_⟩) (by assumption) ?_
  rotate_left
  · (intro w9 hSw; (try dsimp only at hSw); go_simp; try with_reducible rfl)
  try simp only [Act.put, List.setIfInBounds_toArray, List.set_cons_zero, List.set_cons_succ]
  refine wpAnyH_take (i := 7) (oi := ⟨some 10, _, _, _, _, _⟩) (v := ?_) rfl (by kernel_rfl) (by kernel_rfl) (by kernel_rfl) (fun _ _ _ h => h) (Or.inl ⟨by rfl, ?_⟩) (by assumption) ?_
  rotate_left
  · (intro w9 hSw; (try dsimp only at hSw); obtain ⟨_, q0, q1⟩ := hSw; go_simp; try with_reducible rfl)
  try simp only [Act.put, List.setIfInBounds_toArray, List.set_cons_zero, List.set_cons_succ]
  refine wpAnyH_take (i := 8) (oi := ⟨some 11, _, _, _, _, _⟩) (v := ?_) rfl (by kernel_rfl) (by kernel_rfl) (by kernel_rfl) (fun _ _ _ h => h) (Or.inl ⟨by rfl, ?_⟩) (by assumption) ?_
  rotate_left
  · (intro w9 hSw; (try dsimp only at hSw); go_simp; try with_reducible rfl)
  try simp only [Act.put, List.setIfInBounds_toArray, List.set_cons_zero, List.set_cons_succ]
  refine wpAnyH_ready (rs := [0, 4]) (by kernel_rfl) (by simp) ?_
  refine AllReadyH.cons (o := ⟨some 3, _, _, _, _, _⟩) rfl (fun K9 hK9 => ?_) ?_
  · skip
    go_simp
    refine hK9.out _ _ ?_ (fun hHeld => ?_)
    · first | exact yS_newd hk0 | exact yS_new hS2.1 | exact yS_new hS1.1
    clear hK9 K9
    try simp only [Act.put, List.setIfInBounds_toArray, List.set_cons_zero, List.set_cons_succ]
    refine wpAnyH_ready (rs := [1, 4]) (by kernel_rfl) (by simp) ?_
    refine AllReadyH.cons (o := ⟨some 4, _, _, _, _, _⟩) rfl (fun K9 hK9 => ?_) ?_
    · skip
      skip
      go_simp
      refine hK9.out _ _ ?_ (fun hHeld => ?_)
      · assumption
      clear hK9 K9
      try simp only [Act.put, List.setIfInBounds_toArray, List.set_cons_zero, List.set_cons_succ]
      refine wpAnyH_ready (rs := [4]) (by kernel_rfl) (by simp) ?_
      refine AllReadyH.cons (o := ⟨some 7, _, _, _, _, _⟩) rfl (fun K9 hK9 => ?_) AllReadyH.nil
      go_simp; go_at_call 72
      refine (T1.out _).mono ?_
      rintro e w1 ⟨rfl, hb1⟩
      have hS1 := yS_next (g := w.heap.size) (t := 42) (a := .int .u64 (k : Int)) (b := sv s) hb1 (by assumption)
      have hbw := bt (show Below w.heap.size w _ by first | exact hb0.drew | exact (ba hb0 _).drew) hb1
      (try have hq1 := Blk.below (show Blk (World.drew (World.alloc _ _)) _ 5 #[.int .u8 0] from Blk.new _ _ _) hb1)
      (try have hc1 := yone_at 0 _ _ (hq1.cell 0))
      (try rw [World.size_alloc] at hc1)
      refine hK9.out _ _ ?_ (fun hHeld => ?_)
      · assumption
      clear hK9 K9
      try simp only [Act.put, List.setIfInBounds_toArray, List.set_cons_zero, List.set_cons_succ]
      refine wpAnyH_take (i := 5) (oi := ⟨some 8, _, _, _, _, _⟩) (v := ?_) rfl (by kernel_rfl) (by kernel_rfl) (by kernel_rfl) (fun _ _ _ h => h) (Or.inl ⟨by rfl, ?_⟩) (by assumption) ?_
      rotate_left
      · (intro w9 hSw; (try dsimp only at hSw); go_simp; try with_reducible rfl)
      try simp only [Act.put, List.setIfInBounds_toArray, List.set_cons_zero, List.set_cons_succ]
      refine wpAnyH_ready (rs := [9]) (by kernel_rfl) (by simp) ?_
      refine AllReadyH.cons (o := ⟨some 12, _, _, _, _, _⟩) rfl (fun K9 hK9 => ?_) AllReadyH.nil
      go_simp; go_at_call 73
      refine (T2.out _).mono ?_
      rintro e w2 ⟨rfl, hb2⟩
      have hS2 := yS_next (g := w.heap.size) (t := 42) (a := .int .u64 (k : Int)) (b := sv s) hb2 (by assumption)
      have hbw2 := bt (show Below w.heap.size w _ by first | exact hbw | exact ba hbw _) hb2
      (try have hq2 := hq1.below hb2)
      (try have hq3 := (Blk.new w1 5 #[.int .u8 0]).below hb2)
      (try have hc2 := yone_at 0 _ _ (hq2.cell 0))
      (try rw [World.size_alloc] at hc2)
      (try have hc3 := yone_at 0 _ _ (hq3.cell 0))
      refine hK9.out _ _ ?_ (fun hHeld => ?_)
      · assumption
      clear hK9 K9
      try simp only [Act.put, List.setIfInBounds_toArray, List.set_cons_zero, List.set_cons_succ]
      refine wpAnyH_take (i := 10) (oi := ⟨some 13, _, _, _, _, _⟩) (v := ?_) rfl (by kernel_rfl) (by kernel_rfl) (by kernel_rfl) (fun _ _ _ h => h) (Or.inl ⟨by rfl, ?_⟩) (by assumption) ?_
      rotate_left
      · (intro w9 hSw; (try dsimp only at hSw); go_simp; try with_reducible rfl)
      try simp only [Act.put, List.setIfInBounds_toArray, List.set_cons_zero, List.set_cons_succ]
      refine wpAnyH_take (i := 11) (oi := ⟨some 2, _, _, _, _, _⟩) (v := ?_) rfl (by kernel_rfl) (by kernel_rfl) (by kernel_rfl) (fun _ _ _ h => h) (Or.inl ⟨by rfl, ?_⟩) (by assumption) ?_
      rotate_left
      · (intro w9 hSw; (try dsimp only at hSw); go_simp; try with_reducible rfl)
      try simp only [Act.put, List.setIfInBounds_toArray, List.set_cons_zero, List.set_cons_succ]
      refine wpAnyH_done (by kernel_rfl) ?_ _
      simp only [Exit.then]
      go_at_K
      go_wp2_with fail
      go_ret
      first | exact ⟨rfl, hbw2⟩ | exact ⟨rfl, ba hbw2 _⟩
    refine AllReadyH.cons (o := ⟨some 7, _, _, _, _, _⟩) rfl (fun K9 hK9 => ?_) AllReadyH.nil
    · skip
      go_simp; go_at_call 72
      refine (T1.out _).mono ?_
      rintro e w1 ⟨rfl, hb1⟩
      have hS1 := yS_next (g := w.heap.size) (t := 42) (a := .int .u64 (k : Int)) (b := sv s) hb1 (by assumption)
      have hbw := bt (show Below w.heap.size w _ by first | exact hb0.drew | exact (ba hb0 _).drew) hb1
      (try have hq1 := Blk.below (show Blk (World.drew (World.alloc _ _)) _ 5 #[.int .u8 0] from Blk.new _ _ _) hb1)
      (try have hc1 := yone_at 0 _ _ (hq1.cell 0))
      (try rw [World.size_alloc] at hc1)
      refine hK9.out _ _ ?_ (fun hHeld => ?_)
      · assumption
      clear hK9 K9
      try simp only [Act.put, List.setIfInBounds_toArray, List.set_cons_zero, List.set_cons_succ]
      refine wpAnyH_ready (rs := [1, 9]) (by kernel_rfl) (by simp) ?_
      refine AllReadyH.cons (o := ⟨some 4, _, _, _, _, _⟩) rfl (fun K9 hK9 => ?_) ?_
      · skip
        skip
        go_simp
        refine hK9.out _ _ ?_ (fun hHeld => ?_)
        · assumption
        clear hK9 K9
        try simp only [Act.put, List.setIfInBounds_toArray, List.set_cons_zero, List.set_cons_succ]
        refine wpAnyH_take (i := 5) (oi := ⟨some 8, _, _, _, _, _⟩) (v := ?_) rfl (by kernel_rfl) (by kernel_rfl) (by kernel_rfl) (fun _ _ _ h => h) (Or.inl ⟨by rfl, ?_⟩) (by assumption) ?_
        rotate_left
        · (intro w9 hSw; (try dsimp only at hSw); go_simp; try with_reducible rfl)
        try simp only [Act.put, List.setIfInBounds_toArray, List.set_cons_zero, List.set_cons_succ]
        refine wpAnyH_ready (rs := [9]) (by kernel_rfl) (by simp) ?_
        refine AllReadyH.cons (o := ⟨some 12, _, _, _, _, _⟩) rfl (fun K9 hK9 => ?_) AllReadyH.nil
        go_simp; go_at_call 73
        refine (T2.out _).mono ?_
        rintro e w2 ⟨rfl, hb2⟩
        have hS2 := yS_next (g := w.heap.size) (t := 42) (a := .int .u64 (k : Int)) (b := sv s) hb2 (by assumption)
        have hbw2 := bt (show Below w.heap.size w _ by first | exact hbw | exact ba hbw _) hb2
        (try have hq2 := hq1.below hb2)
        (try have hq3 := (Blk.new w1 5 #[.int .u8 0]).below hb2)
        (try have hc2 := yone_at 0 _ _ (hq2.cell 0))
        (try rw [World.size_alloc] at hc2)
        (try have hc3 := yone_at 0 _ _ (hq3.cell 0))
        refine hK9.out _ _ ?_ (fun hHeld => ?_)
        · assumption
        clear hK9 K9
        try simp only [Act.put, List.setIfInBounds_toArray, List.set_cons_zero, List.set_cons_succ]
        refine wpAnyH_take (i := 10) (oi := ⟨some 13, _, _, _, _, _⟩) (v := ?_) rfl (by kernel_rfl) (by kernel_rfl) (by kernel_rfl) (fun _ _ _ h => h) (Or.inl ⟨by rfl, ?_⟩) (by assumption) ?_
        rotate_left
        · (intro w9 hSw; (try dsimp only at hSw); go_simp; try with_reducible rfl)
        try simp only [Act.put, List.setIfInBounds_toArray, List.set_cons_zero, List.set_cons_succ]
        refine wpAnyH_take (i := 11) (oi := ⟨some 2, _, _, _, _, _⟩) (v := ?_) rfl (by kernel_rfl) (by kernel_rfl) (by kernel_rfl) (fun _ _ _ h => h) (Or.inl ⟨by rfl, ?_⟩) (by assumption) ?_
        rotate_left
        · (intro w9 hSw; (try dsimp only at hSw); go_simp; try with_reducible rfl)
        try simp only [Act.put, List.setIfInBounds_toArray, List.set_cons_zero, List.set_cons_succ]
        refine wpAnyH_done (by kernel_rfl) ?_ _
        simp only [Exit.then]
        go_at_K
        go_wp2_with fail
        go_ret
        first | exact ⟨rfl, hbw2⟩ | exact ⟨rfl, ba hbw2 _⟩
      refine AllReadyH.cons (o := ⟨some 12, _, _, _, _, _⟩) rfl (fun K9 hK9 => ?_) AllReadyH.nil
      · skip
        go_simp; go_at_call 73
        refine (T2.out _).mono ?_
        rintro e w2 ⟨rfl, hb2⟩
        have hS2 := yS_next (g := w.heap.size) (t := 42) (a := .int .u64 (k : Int)) (b := sv s) hb2 (by assumption)
        have hbw2 := bt (show Below w.heap.size w _ by first | exact hbw | exact ba hbw _) hb2
        (try have hq2 := hq1.below hb2)
        (try have hq3 := (Blk.new w1 5 #[.int .u8 0]).below hb2)
        (try have hc2 := yone_at 0 _ _ (hq2.cell 0))
        (try rw [World.size_alloc] at hc2)
        (try have hc3 := yone_at 0 _ _ (hq3.cell 0))
        refine hK9.out _ _ ?_ (fun hHeld => ?_)
        · assumption
        clear hK9 K9
        try simp only [Act.put, List.setIfInBounds_toArray, List.set_cons_zero, List.set_cons_succ]
        refine wpAnyH_ready (rs := [1]) (by kernel_rfl) (by simp) ?_
        refine AllReadyH.cons (o := ⟨some 4, _, _, _, _, _⟩) rfl (fun K9 hK9 => ?_) AllReadyH.nil
        skip
        go_simp
        refine hK9.out _ _ ?_ (fun hHeld => ?_)
        · assumption
        clear hK9 K9
        try simp only [Act.put, List.setIfInBounds_toArray, List.set_cons_zero, List.set_cons_succ]
        refine wpAnyH_take (i := 5) (oi := ⟨some 8, _, _, _, _, _⟩) (v := ?_) rfl (by kernel_rfl) (by kernel_rfl) (by kernel_rfl) (fun _ _ _ h => h) (Or.inl ⟨by rfl, ?_⟩) (by assumption) ?_
        rotate_left
        · (intro w9 hSw; (try dsimp only at hSw); go_simp; try with_reducible rfl)
        try simp only [Act.put, List.setIfInBounds_toArray, List.set_cons_zero, List.set_cons_succ]
        refine wpAnyH_take (i := 10) (oi := ⟨some 13, _, _, _, _, _⟩) (v := ?_) rfl (by kernel_rfl) (by kernel_rfl) (by kernel_rfl) (fun _ _ _ h => h) (Or.inl ⟨by rfl, ?_⟩) (by assumption) ?_
        rotate_left
        · (intro w9 hSw; (try dsimp only at hSw); go_simp; try with_reducible rfl)
        try simp only [Act.put, List.setIfInBounds_toArray, List.set_cons_zero, List.set_cons_succ]
        refine wpAnyH_take (i := 11) (oi := ⟨some 2, _, _, _, _, _⟩) (v := ?_) rfl (by kernel_rfl) (by kernel_rfl) (by kernel_rfl) (fun _ _ _ h => h) (Or.inl ⟨by rfl, ?_⟩) (by assumption) ?_
        rotate_left
        · (intro w9 hSw; (try dsimp only at hSw); go_simp; try with_reducible rfl)
        try simp only [Act.put, List.setIfInBounds_toArray, List.set_cons_zero, List.set_cons_succ]
        refine wpAnyH_done (by kernel_rfl) ?_ _
        simp only [Exit.then]
        go_at_K
        go_wp2_with fail
        go_ret
        first | exact ⟨rfl, hbw2⟩ | exact ⟨rfl, ba hbw2 _⟩
  refine AllReadyH.cons (o := ⟨some 7, _, _, _, _, _⟩) rfl (fun K9 hK9 => ?_) AllReadyH.nil
  · skip
    go_simp; go_at_call 72
    refine (T1.out _).mono ?_
    rintro e w1 ⟨rfl, hb1⟩
    have hS1 := yS_next (g := w.heap.size) (t := 42) (a := .int .u64 (k : Int)) (b := sv s) hb1 (by assumption)
    have hbw := bt (show Below w.heap.size w _ by first | exact hb0.drew | exact (ba hb0 _).drew) hb1
    (try have hq1 := Blk.below (show Blk (World.drew (World.alloc _ _)) _ 5 #[.int .u8 0] from Blk.new _ _ _) hb1)
    (try have hc1 := yone_at 0 _ _ (hq1.cell 0))
    (try rw [World.size_alloc] at hc1)
    refine hK9.out _ _ ?_ (fun hHeld => ?_)
    · assumption
    clear hK9 K9
    try simp only [Act.put, List.setIfInBounds_toArray, List.set_cons_zero, List.set_cons_succ]
    refine wpAnyH_ready (rs := [0, 9]) (by kernel_rfl) (by simp) ?_
    refine AllReadyH.cons (o := ⟨some 3, _, _, _, _, _⟩) rfl (fun K9 hK9 => ?_) ?_
    · skip
      go_simp
      refine hK9.out _ _ ?_ (fun hHeld => ?_)
      · first | exact yS_newd hk0 | exact yS_new hS2.1 | exact yS_new hS1.1
      clear hK9 K9
      try simp only [Act.put, List.setIfInBounds_toArray, List.set_cons_zero, List.set_cons_succ]
      refine wpAnyH_ready (rs := [1, 9]) (by kernel_rfl) (by simp) ?_
      refine AllReadyH.cons (o := ⟨some 4, _, _, _, _, _⟩) rfl (fun K9 hK9 => ?_) ?_
      · skip
        skip
        go_simp
        refine hK9.out _ _ ?_ (fun hHeld => ?_)
        · assumption
        clear hK9 K9
        try simp only [Act.put, List.setIfInBounds_toArray, List.set_cons_zero, List.set_cons_succ]
        refine wpAnyH_take (i := 5) (oi := ⟨some 8, _, _, _, _, _⟩) (v := ?_) rfl (by kernel_rfl) (by kernel_rfl) (by kernel_rfl) (fun _ _ _ h => h) (Or.inl ⟨by rfl, ?_⟩) (by assumption) ?_
        rotate_left
        · (intro w9 hSw; (try dsimp only at hSw); go_simp; try with_reducible rfl)
        try simp only [Act.put, List.setIfInBounds_toArray, List.set_cons_zero, List.set_cons_succ]
        refine wpAnyH_ready (rs := [9]) (by kernel_rfl) (by simp) ?_
        refine AllReadyH.cons (o := ⟨some 12, _, _, _, _, _⟩) rfl (fun K9 hK9 => ?_) AllReadyH.nil
        go_simp; go_at_call 73
        refine (T2.out _).mono ?_
        rintro e w2 ⟨rfl, hb2⟩
        have hS2 := yS_next (g := w.heap.size) (t := 42) (a := .int .u64 (k : Int)) (b := sv s) hb2 (by assumption)
        have hbw2 := bt (show Below w.heap.size w _ by first | exact hbw | exact ba hbw _) hb2
        (try have hq2 := hq1.below hb2)
        (try have hq3 := (Blk.new w1 5 #[.int .u8 0]).below hb2)
        (try have hc2 := yone_at 0 _ _ (hq2.cell 0))
        (try rw [World.size_alloc] at hc2)
        (try have hc3 := yone_at 0 _ _ (hq3.cell 0))
        refine hK9.out _ _ ?_ (fun hHeld => ?_)
        · assumption
        clear hK9 K9
        try simp only [Act.put, List.setIfInBounds_toArray, List.set_cons_zero, List.set_cons_succ]
        refine wpAnyH_take (i := 10) (oi := ⟨some 13, _, _, _, _, _⟩) (v := ?_) rfl (by kernel_rfl) (by kernel_rfl) (by kernel_rfl) (fun _ _ _ h => h) (Or.inl ⟨by rfl, ?_⟩) (by assumption) ?_
        rotate_left
        · (intro w9 hSw; (try dsimp only at hSw); go_simp; try with_reducible rfl)
        try simp only [Act.put, List.setIfInBounds_toArray, List.set_cons_zero, List.set_cons_succ]
        refine wpAnyH_take (i := 11) (oi := ⟨some 2, _, _, _, _, _⟩) (v := ?_) rfl (by kernel_rfl) (by kernel_rfl) (by kernel_rfl) (fun _ _ _ h => h) (Or.inl ⟨by rfl, ?_⟩) (by assumption) ?_
        rotate_left
        · (intro w9 hSw; (try dsimp only at hSw); go_simp; try with_reducible rfl)
        try simp only [Act.put, List.setIfInBounds_toArray, List.set_cons_zero, List.set_cons_succ]
        refine wpAnyH_done (by kernel_rfl) ?_ _
        simp only [Exit.then]
        go_at_K
        go_wp2_with fail
        go_ret
        first | exact ⟨rfl, hbw2⟩ | exact ⟨rfl, ba hbw2 _⟩
      refine AllReadyH.cons (o := ⟨some 12, _, _, _, _, _⟩) rfl (fun K9 hK9 => ?_) AllReadyH.nil
      · skip
        go_simp; go_at_call 73
        refine (T2.out _).mono ?_
        rintro e w2 ⟨rfl, hb2⟩
        have hS2 := yS_next (g := w.heap.size) (t := 42) (a := .int .u64 (k : Int)) (b := sv s) hb2 (by assumption)
        have hbw2 := bt (show Below w.heap.size w _ by first | exact hbw | exact ba hbw _) hb2
        (try have hq2 := hq1.below hb2)
        (try have hq3 := (Blk.new w1 5 #[.int .u8 0]).below hb2)
        (try have hc2 := yone_at 0 _ _ (hq2.cell 0))
        (try rw [World.size_alloc] at hc2)
        (try have hc3 := yone_at 0 _ _ (hq3.cell 0))
        refine hK9.out _ _ ?_ (fun hHeld => ?_)
        · assumption
        clear hK9 K9
        try simp only [Act.put, List.setIfInBounds_toArray, List.set_cons_zero, List.set_cons_succ]
        refine wpAnyH_ready (rs := [1]) (by kernel_rfl) (by simp) ?_
        refine AllReadyH.cons (o := ⟨some 4, _, _, _, _, _⟩) rfl (fun K9 hK9 => ?_) AllReadyH.nil
        skip
        go_simp
        refine hK9.out _ _ ?_ (fun hHeld => ?_)
        · assumption
        clear hK9 K9
        try simp only [Act.put, List.setIfInBounds_toArray, List.set_cons_zero, List.set_cons_succ]
        refine wpAnyH_take (i := 5) (oi := ⟨some 8, _, _, _, _, _⟩) (v := ?_) rfl (by kernel_rfl) (by kernel_rfl) (by kernel_rfl) (fun _ _ _ h => h) (Or.inl ⟨by rfl, ?_⟩) (by assumption) ?_
        rotate_left
        · (intro w9 hSw; (try dsimp only at hSw); go_simp; try with_reducible rfl)
        try simp only [Act.put, List.setIfInBounds_toArray, List.set_cons_zero, List.set_cons_succ]
        refine wpAnyH_take (i := 10) (oi := ⟨some 13, _, _, _, _, _⟩) (v := ?_) rfl (by kernel_rfl) (by kernel_rfl) (by kernel_rfl) (fun _ _ _ h => h) (Or.inl ⟨by rfl, ?_⟩) (by assumption) ?_
        rotate_left
        · (intro w9 hSw; (try dsimp only at hSw); go_simp; try with_reducible rfl)
        try simp only [Act.put, List.setIfInBounds_toArray, List.set_cons_zero, List.set_cons_succ]
        refine wpAnyH_take (i := 11) (oi := ⟨some 2, _, _, _, _, _⟩) (v := ?_) rfl (by kernel_rfl) (by kernel_rfl) (by kernel_rfl) (fun _ _ _ h => h) (Or.inl ⟨by rfl, ?_⟩) (by assumption) ?_
        rotate_left
        · (intro w9 hSw; (try dsimp only at hSw); go_simp; try with_reducible rfl)
        try simp only [Act.put, List.setIfInBounds_toArray, List.set_cons_zero, List.set_cons_succ]
        refine wpAnyH_done (by kernel_rfl) ?_ _
        simp only [Exit.then]
        go_at_K
        go_wp2_with fail
        go_ret
        first | exact ⟨rfl, hbw2⟩ | exact ⟨rfl, ba hbw2 _⟩
    refine AllReadyH.cons (o := ⟨some 12, _, _, _, _, _⟩) rfl (fun K9 hK9 => ?_) AllReadyH.nil
    · skip
      go_simp; go_at_call 73
      refine (T2.out _).mono ?_
      rintro e w2 ⟨rfl, hb2⟩
      have hS2 := yS_next (g := w.heap.size) (t := 42) (a := .int .u64 (k : Int)) (b := sv s) hb2 (by assumption)
      have hbw2 := bt (show Below w.heap.size w _ by first | exact hbw | exact ba hbw _) hb2
      (try have hq2 := hq1.below hb2)
      (try have hq3 := (Blk.new w1 5 #[.int .u8 0]).below hb2)
      (try have hc2 := yone_at 0 _ _ (hq2.cell 0))
      (try rw [World.size_alloc] at hc2)
      (try have hc3 := yone_at 0 _ _ (hq3.cell 0))
      refine hK9.out _ _ ?_ (fun hHeld => ?_)
      · assumption
      clear hK9 K9
      try simp only [Act.put, List.setIfInBounds_toArray, List.set_cons_zero, List.set_cons_succ]
      refine wpAnyH_ready (rs := [0]) (by kernel_rfl) (by simp) ?_
      refine AllReadyH.cons (o := ⟨some 3, _, _, _, _, _⟩) rfl (fun K9 hK9 => ?_) AllReadyH.nil
      go_simp
      refine hK9.out _ _ ?_ (fun hHeld => ?_)
      · first | exact yS_newd hk0 | exact yS_new hS2.1 | exact yS_new hS1.1
      clear hK9 K9
      try simp only [Act.put, List.setIfInBounds_toArray, List.set_cons_zero, List.set_cons_succ]
      refine wpAnyH_ready (rs := [1]) (by kernel_rfl) (by simp) ?_
      refine AllReadyH.cons (o := ⟨some 4, _, _, _, _, _⟩) rfl (fun K9 hK9 => ?_) AllReadyH.nil
      skip
      go_simp
      refine hK9.out _ _ ?_ (fun hHeld => ?_)
      · assumption
      clear hK9 K9
      try simp only [Act.put, List.setIfInBounds_toArray, List.set_cons_zero, List.set_cons_succ]
      refine wpAnyH_take (i := 5) (oi := ⟨some 8, _, _, _, _, _⟩) (v := ?_) rfl (by kernel_rfl) (by kernel_rfl) (by kernel_rfl) (fun _ _ _ h => h) (Or.inl ⟨by rfl, ?_⟩) (by assumption) ?_
      rotate_left
      · (intro w9 hSw; (try dsimp only at hSw); go_simp; try with_reducible rfl)
      try simp only [Act.put, List.setIfInBounds_toArray, List.set_cons_zero, List.set_cons_succ]
      refine wpAnyH_take (i := 10) (oi := ⟨some 13, _, _, _, _, _⟩) (v := ?_) rfl (by kernel_rfl) (by kernel_rfl) (by kernel_rfl) (fun _ _ _ h => h) (Or.inl ⟨by rfl, ?_⟩) (by assumption) ?_
      rotate_left
      · (intro w9 hSw; (try dsimp only at hSw); go_simp; try with_reducible rfl)
      try simp only [Act.put, List.setIfInBounds_toArray, List.set_cons_zero, List.set_cons_succ]
      refine wpAnyH_take (i := 11) (oi := ⟨some 2, _, _, _, _, _⟩) (v := ?_) rfl (by kernel_rfl) (by kernel_rfl) (by kernel_rfl) (fun _ _ _ h => h) (Or.inl ⟨by rfl, ?_⟩) (by assumption) ?_
      rotate_left
      · (intro w9 hSw; (try dsimp only at hSw); go_simp; try with_reducible rfl)
      try simp only [Act.put, List.setIfInBounds_toArray, List.set_cons_zero, List.set_cons_succ]
      refine wpAnyH_done (by kernel_rfl) ?_ _
      simp only [Exit.then]
      go_at_K
      go_wp2_with fail
      go_ret
      first | exact ⟨rfl, hbw2⟩ | exact ⟨rfl, ba hbw2 _⟩

set_option maxRecDepth 100000 in
set_option maxHeartbeats 1000000 in
theorem yrleaf_any (k : Nat) (s : List UInt8) (w : World) (hs : s.length ≤ 4096) (hk : k < 18446744073709551616) :
    Calls Tryz.prog 59 #[.agg #[.int .u64 (k : Int), sv s]] w fun e w' => e = .returned (.string ⟨(yleaf (k, s)).toArray⟩) ∧ Below w.heap.size w w' := by
  have hb0 := ba (Below.refl w.heap.size w) (.cells #[.int .u64 (k : Int), sv s] 42)
  have T1 := Lib.hid (fun W => yritem_any k s W hs hk)
  have T2 := Lib.hid (fun W => hrsum_any rwords_holds (yitem (k, s)) W (by rw [yitem_len]; simp only; omega))
  have HZ : Hid (yleaf (k, s) = hsumL (yitem (k, s))) := Lib.hid rfl
  rw [HZ.out]
  clear HZ hs hk
  generalize hsumL (yitem (k, s)) = h at *
  generalize yitem (k, s) = t at *
  go_enter Tryz.func59, Tryz.ntmps59
  go_wp2_with fail
  refine (T1.out _).mono ?_
  rintro e w1 ⟨rfl, hb1⟩
  have hb2 := bt hb0 hb1
  go_wp2_with fail
  refine (T2.out _).mono ?_
  rintro e w2 ⟨rfl, hb3⟩
  have hb4 := bt hb2 hb3
  go_wp2
  go_ret
  exact ⟨rfl, hb4⟩
end Go.Proofs.YtjonhenllhnibaaGreatDoor
/- A loop over a function that hands pairs on and only makes memory: the body may turn whatever lies in no block of a set S. Nothing of any function. -/
namespace Go.Proofs.YtjonhenllhnibaaGreatDoor
open Go.RowKit Go.Shelf

/-- What a round that goes on keeps: the blocks of S. -/
def KpS (S : Nat → Prop) (W W' : World) : Prop := W.heap.size ≤ W'.heap.size ∧ ∀ k, S k → W'.heap[k]? = W.heap[k]?
theorem KpS.trans {S : Nat → Prop} {A B C : World} (h : KpS S A B) (k : KpS S B C) : KpS S A C := ⟨Nat.le_trans h.1 k.1, fun i hi => (k.2 i hi).trans (h.2 i hi)⟩
theorem KpS.refl (S : Nat → Prop) (W : World) : KpS S W W := ⟨Nat.le_refl _, fun _ _ => rfl⟩
theorem KpS.of_below {S : Nat → Prop} {A B : World} (h : Below A.heap.size A B) (hS : ∀ k, S k → k < A.heap.size) : KpS S A B := ⟨h.size, fun k hk => h.block k (hS k hk)⟩
theorem KpS.putObj {S : Nat → Prop} {l : Nat} {W : World} {o' : Obj} (hn : ¬ S l) : KpS S W (W.putObj l o') := ⟨by simp, fun k hk => World.putObj_heap_other (fun e => hn (e ▸ hk))⟩
theorem KpS.set_ {S : Nat → Prop} {W : World} {g o : Nat} {v : Value} (hn : ¬ S g) : KpS S W (W.setCell ⟨g, o, none⟩ v) := ⟨(Below.refl 0 W).setCell (p := ⟨g, o, none⟩) (Nat.zero_le _) v |>.size, fun k hk => Below.heap_setCell W ⟨g, o, none⟩ v k (fun e => hn (by have e' : k = g := e; exact e' ▸ hk))⟩
theorem KpS.blk {S : Nat → Prop} {W W' : World} {g : Nat} {t : TypeId} {cs : Array Value} (h : KpS S W W') (hg : S g) (hb : Blk W g t cs) : Blk W' g t cs := (h.2 g hg).trans hb

/-- What is asked of the function that hands the pairs on. -/
def HandsY {α : Type} (e1 e2 : α → Value) (n gf : Nat) (lb : Array Value) (S : Nat → Prop) (zs : List α) (w : World) : Prop :=
  ∀ (l : Nat) (J Jx : List α → World → Prop) (W : World), Below w.heap.size w W → AbV J →
    (∀ pre x W1, J pre W1 → (pre ++ [x]) <+: zs → YieldAt Fence.wide (n - 1) Tryz.prog l #[e1 x, e2 x] W1 fun e W' =>
      (e = .returned (.bool true) ∧ J (pre ++ [x]) W' ∧ KpS S W1 W') ∨ (e = .returned (.bool false) ∧ Jx (pre ++ [x]) W')) → J [] W →
    CallsIn Fence.wide n Tryz.prog gf (#[.func (.yield l) #[] #[]] ++ lb) W fun e W' => (∃ v, e = .returned v) ∧ (J zs W' ∨ ∃ pre, pre <+: zs ∧ Jx pre W')

/-- How a round may be left. -/
def LeftY {α : Type} (B : Nat) (S : Nat → Prop) (I : List α → World → Prop) (Ix : Code → List α → World → Prop) (xs : List α) (W : World) : Exit → Act → World → Prop
  | .normal, _, W' => KeepsFrom B W W' ∧ KpS S W W' ∧ I xs W'
  | .ret, _, W' => KeepsFrom B W W' ∧ Ix .ret xs W'
  | _, _, _ => False

set_option maxHeartbeats 1000000 in
theorem range_y {α : Type} {e1 e2 : α → Value} {n : Nat} {g : Operand} {p p2 : Tmp} {assign body : Code} {Q : Exit → Act → World → Prop} {a : Act} {w w0 : World} (hn : 1 ≤ n) {gf : Nat} {lb : Array Value}
    (hg : a.eval g = .func (.func gf) #[] lb) (eg : ∀ args w, (callFunc gf args).run Tryz.prog w = .ok (.enter gf args) w) {S : Nat → Prop} (hS : ∀ k, S k → k < w.heap.size) {zs : List α} (hH : HandsY e1 e2 (n - 1) gf lb S zs w0) (hb0 : Below w0.heap.size w0 w)
    (I : List α → World → Prop) (Ix : Code → List α → World → Prop) (hI : KeptV w.heap.size I) (hIx : ∀ c, KeptV w.heap.size (Ix c)) (h0 : I [] w) (Ax : α → Act → World → Prop) (hAx : ∀ x a' W l o o', Ax x a' W → w.heap.size ≤ l → W.heap[l]? = some o → o.isCells = false → Ax x a' (W.putObj l o'))
    (hassign : ∀ (l : Nat) (pre : List α) (x : α) (W : World) (K : Act → World → Prop), I pre W → (∀ a' W', KeepsFrom w.heap.size W W' → KpS S W W' → I pre W' → Ax x a' W' → K a' W') →
      assign.wpIn (Fence.wide.inRound l) (n - 1 - 1) Tryz.prog (Exit.then K (fun _ _ _ => False)) { tmps := (#[p, p2].zip #[e1 x, e2 x]).foldl (fun t (p, v) => t.setIfInBounds p v) a.tmps, defers := [] } W)
    (hbody : ∀ (l : Nat) (pre : List α) (x : α) (a' : Act) (W : World), w.heap.size ≤ l → I pre W → Ax x a' W → (pre ++ [x]) <+: zs → body.wpIn (Fence.wide.inRound l) (n - 1 - 1) Tryz.prog (LeftY w.heap.size S I Ix (pre ++ [x]) W) a' W)
    (hdone : ∀ (D : Nat) (W : World), w.heap.size ≤ D → I zs W → W.heap[D]? = some (.deferred (some [])) → Q .normal { a with defers := { target := .collected D, args := #[] } :: a.defers } W)
    (hstop : ∀ (D : Nat) (c : Code) (pre : List α) (W : World), w.heap.size ≤ D → pre <+: zs → Ix c pre W → W.heap[D]? = some (.deferred (some [])) → c.wpIn Fence.wide n Tryz.prog Q { a with defers := { target := .collected D, args := #[] } :: a.defers } W) :
    (Code.rangeFunc g #[p, p2] assign body).wpIn Fence.wide n Tryz.prog Q a w := by
  refine wpIn_rangeFunc fun fn hfn => ?_
  -- the loop's record and the block for deferred calls
  let R : LoopState → Option Code → Loop := fun st pe => { state := st, pending := pe, fn, tmps := a.tmps, params := #[p, p2], assign, body, defers := w.heap.size }
  let V : World := (w.alloc (.deferred (some []))).alloc (.loop (R .ready none))
  have hVl : V.heap[w.heap.size + 1]? = some (.loop (R .ready none)) := by
    have := World.alloc_heap_new (w.alloc (.deferred (some []))) (.loop (R .ready none)); rwa [World.size_alloc] at this
  have hVd : V.heap[w.heap.size]? = some (.deferred (some [])) := (Below.heap_alloc _ _ _ (by simp)).trans (World.alloc_heap_new w _)
  have hVs : V.heap.size = w.heap.size + 2 := by simp [V]
  have hVb : Below w0.heap.size w0 V := hb0.trans ((((Below.refl _ w).alloc (Nat.le_refl _) _).alloc (by simp) _).mono hb0.size)
  refine ⟨w.heap.size + 1, [{ target := .collected w.heap.size, args := #[] }], V, { target := .fn (.func gf) lb, args := #[.func (.yield (w.heap.size + 1)) #[] #[]] }, V, gf,
    #[.func (.yield (w.heap.size + 1)) #[] #[]] ++ lb, V, run_enterLoop_outer _ _ _ _ _, ?_, fun _ _ => trivial, ?_, fun _ => hn, ?_⟩
  · simp only [resolve, hg]
    simp [go_sem]
  · simp [invoke, go_sem, eg]
  refine (hH (w.heap.size + 1)
    (fun pre W => I pre W ∧ W.heap[w.heap.size + 1]? = some (.loop (R .ready none)) ∧ W.heap[w.heap.size]? = some (.deferred (some [])))
    (fun pre W => ∃ c, Ix c pre W ∧ W.heap[w.heap.size + 1]? = some (.loop (R .done (some c))) ∧ W.heap[w.heap.size]? = some (.deferred (some [])))
    V hVb
    (fun s A B hs hb => ⟨hI.below hs.1 hb, (hb.block _ (Array.getElem?_eq_some_iff.1 hs.2.1).1).trans hs.2.1, (hb.block _ (Array.getElem?_eq_some_iff.1 hs.2.2).1).trans hs.2.2⟩)
    ?_ ⟨hI.alloc _ (hI.alloc _ h0), hVl, hVd⟩).mono ?_
  · -- one round
    rintro pre x W ⟨hi, hl, hd⟩ hlen
    refine ⟨fn, _, assign, body, run_yield (P := Tryz.prog) (args := #[e1 x, e2 x]) hl rfl, roundIn_of_wpIn hfn (hassign _ pre x W _ hi ?_)⟩
    intro a' U hUk hUp hUi hUa
    have hl1 := hUk.same _ _ (by omega) hl rfl
    have hd1 := hUk.same _ _ (Nat.le_refl _) hd rfl
    have hlt := (Array.getElem?_eq_some_iff.1 hl1).1
    refine ⟨_, run_beginRound hl1 rfl, ?_⟩
    let Z : World := U.putObj (w.heap.size + 1) (.loop (R .busy none))
    have hl2 : Z.heap[w.heap.size + 1]? = some (.loop (R .busy none)) := World.putObj_heap_same hlt
    have hd2 : Z.heap[w.heap.size]? = some (.deferred (some [])) := (World.putObj_heap_other (by omega)).trans hd1
    have hZp : KpS S U Z := KpS.putObj (fun h => by have := hS _ h; omega)
    refine wpIn_mono (hbody _ pre x a' Z (by omega) (hI.putObj _ hUi (by omega) hl1 rfl) (hAx _ _ _ _ _ _ hUa (by omega) hl1 rfl) hlen) ?_
    intro e a3 W3 hp
    cases e with
    | normal =>
      obtain ⟨hk3, hp3, hi3⟩ := hp
      have hl3 := hk3.same _ _ (by omega) hl2 rfl
      have hd3 := hk3.same _ _ (Nat.le_refl _) hd2 rfl
      exact ⟨_, _, run_endRound none hl3, .inl ⟨rfl, ⟨hI.putObj _ hi3 (by omega) hl3 rfl, World.putObj_heap_same (Array.getElem?_eq_some_iff.1 hl3).1, (World.putObj_heap_other (by omega)).trans hd3⟩,
        hUp.trans (hZp.trans (hp3.trans (KpS.putObj (fun h => by have := hS _ h; omega))))⟩⟩
    | ret =>
      obtain ⟨hk3, hi3⟩ := hp
      have hl3 := hk3.same _ _ (by omega) hl2 rfl
      have hd3 := hk3.same _ _ (Nat.le_refl _) hd2 rfl
      exact ⟨_, _, run_endRound (some .ret) hl3, .inr ⟨rfl, .ret, (hIx _).putObj _ hi3 (by omega) hl3 rfl, World.putObj_heap_same (Array.getElem?_eq_some_iff.1 hl3).1, (World.putObj_heap_other (by omega)).trans hd3⟩⟩
    | exit id => exact hp.elim
    | goto t => exact hp.elim
    | panic ch => exact hp.elim
    | outgrown => exact hp.elim
  · -- behind the loop
    rintro e W2 ⟨⟨v, rfl⟩, ⟨hi, hl, hd⟩ | ⟨pre, hp, c, hi, hl, hd⟩⟩
    · exact ⟨none, _, run_endLoop (P := Tryz.prog) hl (by simp [R]), hdone _ _ (Nat.le_refl _) (hI.putObj _ hi (by omega) hl rfl) ((World.putObj_heap_other (by omega)).trans hd)⟩
    · exact ⟨some c, _, run_endLoop (P := Tryz.prog) hl (by simp [R]), hstop _ c pre _ (Nat.le_refl _) hp ((hIx c).putObj _ hi (by omega) hl rfl) ((World.putObj_heap_other (by omega)).trans hd)⟩
end Go.Proofs.YtjonhenllhnibaaGreatDoor
/- Rows of a call's own, once more. Nothing of any function. -/
namespace Go.Proofs.YtjonhenllhnibaaGreatDoor
open Go.RowKit

theorem yown_one {W : World} {base g : Nat} {e : TypeId} {v : Value} (h : Blk W g e #[v]) (hb : base ≤ g) : W.ownsRow base e 1 (.slice (some ⟨g, 0, none⟩) 1 1) 1 [v] :=
  ⟨rfl, .inr ⟨g, 1, #[v], rfl, hb, h, Nat.le_refl _, by unfold maxLen; omega, rfl, rfl⟩⟩
theorem yown_base {W : World} {b b' : Nat} {e : TypeId} {size n : Nat} {v : Value} {xs : List Value} (h : W.ownsRow b e size v n xs) (hb : b' ≤ b) : W.ownsRow b' e size v n xs := by
  refine ⟨h.1, ?_⟩
  rcases h.2 with h2 | ⟨g, cap, cur, hv, hg, r⟩
  · exact .inl h2
  · exact .inr ⟨g, cap, cur, hv, Nat.le_trans hb hg, r⟩
theorem yown_far {W : World} {base : Nat} {e : TypeId} {size : Nat} {v : Value} {n : Nat} {xs : List Value} (h : W.ownsRow base e size v n xs) {g o : Nat} (hp : g < base) (u : Value) : (W.setCell ⟨g, o, none⟩ u).ownsRow base e size v n xs :=
  vown_kept h (fun k hk => Below.heap_setCell W ⟨g, o, none⟩ u k (fun e => by
    have h1 := (vown_blk h k hk).1
    have e' : k = g := e
    omega))
theorem KpS.grown {S : Nat → Prop} {W W' : World} {row : Option Nat} (hg : W.grownBy W' row) (hS : ∀ k, S k → k < W.heap.size) (hr : ∀ k, row = some k → ¬ S k) : KpS S W W' :=
  ⟨hg.size, fun k hk => hg.block k (hS k hk) (fun e => hr k e.symm hk)⟩
theorem KpS.alloc {S : Nat → Prop} (W : World) (o : Obj) (hS : ∀ k, S k → k < W.heap.size) : KpS S W (W.alloc o) := KpS.of_below (ba (Below.refl _ _) o) hS
theorem KpS.at_ {S : Nat → Prop} {W W' : World} (h : KpS S W W') {a : Addr} (ha : S a.block) : W'.cell? a = W.cell? a := World.cell?_of_block (h.2 _ ha)
theorem ytake_flat (L : List (List UInt8)) (h : ∀ x ∈ L, x.length = 32) : L.flatten.length = 32 * L.length := by
  induction L with
  | nil => rfl
  | cons y M ih =>
    have h4 := ih fun x hx => h x (List.mem_cons_of_mem _ hx)
    have h5 := h y List.mem_cons_self
    rw [List.flatten_cons, List.length_append, List.length_cons]
    omega
end Go.Proofs.YtjonhenllhnibaaGreatDoor
