/- Texts of this seat, one behind the other: PLawP. -/
import Derived.Test.YtjonhenllhnibaaGreatDoorQ21
import Derived.Test.YtjonhenllhnibaaGreatDoorQ27
import Derived.Test.YtjonhenllhnibaaGreatDoorQ34
import Derived.Test.YtjonhenllhnibaaGreatDoorQ35
/- The walk of ProofProves. -/
namespace Go.Proofs.YtjonhenllhnibaaGreatDoor
open Go.RowKit

set_option maxRecDepth 100000 in
set_option maxHeartbeats 16000000 in
theorem plawP_any (k0 : List UInt8) (A : Option Addr) (c kk : Nat) (L0 : List ItL) (A3 B3 : Option Addr) (c3 d3 : Nat) (A4 B4 : Option Addr) (c4 d4 : Nat) (G3 F3 G4 F4 : List (List (List UInt8))) (w : World) (hA0 : IR w A L0) (hc0 : L0.length ≤ c) (hx0 : ∀ x ∈ L0, x.1 < 18446744073709551616)
    (hG3 : LR w A3 G3) (hF3 : LR w B3 F3) (hG4 : LR w A4 G4) (hF4 : LR w B4 F4) (hc3 : G3.length ≤ c3) (hd3 : F3.length ≤ d3) (hc4 : G4.length ≤ c4) (hd4 : F4.length ≤ d4) (hs3 : PSmall G3) (ht3 : PSmall F3) (hs4 : PSmall G4) (ht4 : PSmall F4) (hT : VTab w) :
    Calls Tryz.prog 3 #[.string ⟨k0.toArray⟩, .slice A L0.length c, vu kk, pfv A3 G3.length c3 B3 F3.length d3, pfv A4 G4.length c4 B4 F4.length d4] w fun e w' => e = .returned (.bool true) ∧ Below w.heap.size w w' := by
  have HF3 := Lib.hid (fun W (hb : Below w.heap.size w W) => pfew_any A3 B3 c3 _ d3 _ G3 F3 W (hG3.later hb) (hF3.later hb) rfl rfl hc3 hd3 hs3 ht3)
  have HF4 := Lib.hid (fun W (hb : Below w.heap.size w W) => pfew_any A4 B4 c4 _ d4 _ G4 F4 W (hG4.later hb) (hF4.later hb) rfl rfl hc4 hd4 hs4 ht4)
  have HAL := Lib.hid (fun W (hb : Below w.heap.size w W) => palive_any W (hT.later hb))
  have s3 := (pcut_small G3).1
  have t3 := (pcut_small F3).1
  have s4 := (pcut_small G4).1
  have t4 := (pcut_small F4).1
  have x3 := pcut66 G3
  have y3 := pcut66 F3
  have x4 := pcut66 G4
  have y4 := pcut66 F4
  have hz0 := size_mk k0
  obtain ⟨n3, hn3⟩ : ∃ n3, G3.length = n3 := ⟨_, rfl⟩
  obtain ⟨m3, hm3⟩ : ∃ m3, F3.length = m3 := ⟨_, rfl⟩
  obtain ⟨n4, hn4⟩ : ∃ n4, G4.length = n4 := ⟨_, rfl⟩
  obtain ⟨m4, hm4⟩ : ∃ m4, F4.length = m4 := ⟨_, rfl⟩
  obtain ⟨N, hN⟩ : ∃ N, k0.length = N := ⟨_, rfl⟩
  obtain ⟨M, hM⟩ : ∃ M, L0.length = M := ⟨_, rfl⟩
  rw [hn3, hm3] at HF3 ⊢
  rw [hn4, hm4] at HF4 ⊢
  rw [hN] at hz0
  rw [hM] at hc0 ⊢
  obtain ⟨p, hp⟩ : ∃ p, min N 80 = p := ⟨_, rfl⟩
  obtain ⟨n, hn⟩ : ∃ n, min M 12 = n := ⟨_, rfl⟩
  have hex := extract_take k0 p
  have hkl : (k0.take p).length ≤ 60000 := by rw [List.length_take]; omega
  have hl9 : (L0.take n).length = n := by rw [List.length_take]; omega
  have hA : IR w A (L0.take n) := hA0.take n
  have hx9 : ∀ x ∈ L0.take n, x.1 < 18446744073709551616 := fun x hx => hx0 x (List.mem_of_mem_take hx)
  have h1 : (p : Int) ≤ (N : Int) := by omega
  have h2 : min (N : Int) 80 = (p : Int) := by omega
  have h3 : p ≤ N := by omega
  have h4 : min (M : Int) 12 = (n : Int) := by omega
  have hsl := icut_run A M c n (by omega)
  have hn12 : n ≤ 12 := by omega
  have hc : n ≤ c := by omega
  clear hA0 hp hn hN hM hx0 hG3 hF3 hG4 hF4 hc3 hd3 hc4 hd4 hs3 ht3 hs4 ht4 hn3 hm3 hn4 hm4
  generalize L0.take n = L at *
  generalize hGG3 : pcut G3 = C3 at *
  generalize hFF3 : pcut F3 = D3 at *
  generalize hGG4 : pcut G4 = C4 at *
  generalize hFF4 : pcut F4 = D4 at *
  clear hGG3 hFF3 hGG4 hFF4
  obtain ⟨u3, hu3⟩ : ∃ u3, C3.length = u3 := ⟨_, rfl⟩
  obtain ⟨v3, hv3⟩ : ∃ v3, D3.length = v3 := ⟨_, rfl⟩
  obtain ⟨u4, hu4⟩ : ∃ u4, C4.length = u4 := ⟨_, rfl⟩
  obtain ⟨v4, hv4⟩ : ∃ v4, D4.length = v4 := ⟨_, rfl⟩
  rw [hu3] at s3 HF3
  rw [hv3] at t3 HF3
  rw [hu4] at s4 HF4
  rw [hv4] at t4 HF4
  have hb0 := pb2_below w A3 n3 c3 B3 m3 d3 A4 n4 c4 B4 m4 d4
  obtain ⟨hk0, hk1⟩ := pb2_blks w A3 n3 c3 B3 m3 d3 A4 n4 c4 B4 m4 d4
  unfold pb2 at *
  go_enter Tryz.func3, Tryz.ntmps3
  go_upto_region 1 with fail
  generalize (w.alloc (.cells #[.slice A3 n3 c3, .slice B3 m3 d3] 26)).alloc (.cells #[.slice A4 n4 c4, .slice B4 m4 d4] 26) = w1 at hk0 hk1 hb0 ⊢
  have HK0 := Lib.hid (show Blk w1.drew w.heap.size 26 #[.slice A3 n3 c3, .slice B3 m3 d3] from hk0)
  have HK1 := Lib.hid (show Blk w1.drew (w.heap.size + 1) 26 #[.slice A4 n4 c4, .slice B4 m4 d4] from hk1)
  have HB0 := Lib.hid hb0.drew
  have c0 := pcell0 hk0
  have c1 := pcell1 hk0
  have c2 := pcell0 hk1
  have c5 := pcell1 hk1
  have HLT := Lib.hid hk1.lt
  clear hk0 hk1 hb0
  go_cut [0, 1] from 14 to 28 (fun s0 s1 wx => s0 = .string ⟨(k0.take p).toArray⟩ ∧ s1 = .slice A n c ∧ ∃ X3 e3 Y3 f3 X4 e4 Y4 f4, Hid (Blk wx w.heap.size 26 #[.slice X3 u3 e3, .slice Y3 v3 f3]) ∧ Hid (Blk wx (w.heap.size + 1) 26 #[.slice X4 u4 e4, .slice Y4 v4 f4]) ∧ Hid (LR wx X3 C3 ∧ LR wx Y3 D3) ∧ Hid (LR wx X4 C4 ∧ LR wx Y4 D4) ∧ Hid (Below w.heap.size w wx))
  case first =>
    -- region 1
    refine wp_region_held_drew (S := fun _ => True) (by kernel_rfl) trivial (fun hHeld => ?_)
    refine wpAnyH_take (i := 0) (oi := ⟨some 14, _, _, _, _, _⟩) (v := ?_) rfl (by kernel_rfl) (by kernel_rfl) (by kernel_rfl) (fun _ _ _ h => h) (Or.inl ⟨by rfl, ?_⟩) (by assumption) ?_
    rotate_left
    · (intro w9 hSw; (try dsimp only at hSw); go_simp; try with_reducible rfl)
    try simp only [Act.put, List.setIfInBounds_toArray, List.set_cons_zero, List.set_cons_succ]
    refine wpAnyH_take (i := 1) (oi := ⟨some 15, _, _, _, _, _⟩) (v := ?_) rfl (by kernel_rfl) (by kernel_rfl) (by kernel_rfl) (fun _ _ _ h => h) (Or.inl ⟨by rfl, ?_⟩) (by assumption) ?_
    rotate_left
    · (intro w9 hSw; (try dsimp only at hSw); go_simp; try with_reducible rfl)
    try simp only [Act.put, List.setIfInBounds_toArray, List.set_cons_zero, List.set_cons_succ]
    refine wpAnyH_take (i := 2) (oi := ⟨some 16, _, _, _, _, _⟩) (v := .int .i64 (N : Int)) rfl (by kernel_rfl) (by kernel_rfl) (by kernel_rfl) (fun _ _ _ h => h) (Or.inl ⟨by rfl, ?_⟩) (by assumption) ?_
    · (intro w9 hSw; (try dsimp only at hSw); go_simp; try with_reducible rfl)
    try simp only [Act.put, List.setIfInBounds_toArray, List.set_cons_zero, List.set_cons_succ]
    refine wpAnyH_take (i := 3) (oi := ⟨some 17, _, _, _, _, _⟩) (v := .int .i64 (p : Int)) rfl (by kernel_rfl) (by kernel_rfl) (by kernel_rfl) (fun _ _ _ h => h) (Or.inl ⟨by rfl, ?_⟩) (by assumption) ?_
    · (intro w9 hSw; (try dsimp only at hSw); go_simp; try with_reducible rfl)
    try simp only [Act.put, List.setIfInBounds_toArray, List.set_cons_zero, List.set_cons_succ]
    refine wpAnyH_take (i := 4) (oi := ⟨some 18, _, _, _, _, _⟩) (v := sv (k0.take p)) rfl (by kernel_rfl) (by kernel_rfl) (by kernel_rfl) (fun _ _ _ h => h) (Or.inl ⟨by rfl, ?_⟩) (by assumption) ?_
    · (intro w9 hSw; (try dsimp only at hSw); go_simp; try with_reducible rfl)
    try simp only [Act.put, List.setIfInBounds_toArray, List.set_cons_zero, List.set_cons_succ]
    refine wpAnyH_take (i := 5) (oi := ⟨some 19, _, _, _, _, _⟩) (v := ?_) rfl (by kernel_rfl) (by kernel_rfl) (by kernel_rfl) (fun _ _ _ h => h) (Or.inl ⟨by rfl, ?_⟩) (by assumption) ?_
    rotate_left
    · (intro w9 hSw; (try dsimp only at hSw); go_simp; try with_reducible rfl)
    try simp only [Act.put, List.setIfInBounds_toArray, List.set_cons_zero, List.set_cons_succ]
    refine wpAnyH_take (i := 6) (oi := ⟨some 20, _, _, _, _, _⟩) (v := ?_) rfl (by kernel_rfl) (by kernel_rfl) (by kernel_rfl) (fun _ _ _ h => h) (Or.inl ⟨by rfl, ?_⟩) (by assumption) ?_
    rotate_left
    · (intro w9 hSw; (try dsimp only at hSw); go_simp; try with_reducible rfl)
    try simp only [Act.put, List.setIfInBounds_toArray, List.set_cons_zero, List.set_cons_succ]
    refine wpAnyH_take (i := 7) (oi := ⟨some 21, _, _, _, _, _⟩) (v := .int .i64 (M : Int)) rfl (by kernel_rfl) (by kernel_rfl) (by kernel_rfl) (fun _ _ _ h => h) (Or.inl ⟨by rfl, ?_⟩) (by assumption) ?_
    · (intro w9 hSw; (try dsimp only at hSw); go_simp; try with_reducible rfl)
    try simp only [Act.put, List.setIfInBounds_toArray, List.set_cons_zero, List.set_cons_succ]
    refine wpAnyH_take (i := 8) (oi := ⟨some 22, _, _, _, _, _⟩) (v := .int .i64 (n : Int)) rfl (by kernel_rfl) (by kernel_rfl) (by kernel_rfl) (fun _ _ _ h => h) (Or.inl ⟨by rfl, ?_⟩) (by assumption) ?_
    · (intro w9 hSw; (try dsimp only at hSw); go_simp; try with_reducible rfl)
    try simp only [Act.put, List.setIfInBounds_toArray, List.set_cons_zero, List.set_cons_succ]
    refine wpAnyH_take (i := 9) (oi := ⟨some 23, _, _, _, _, _⟩) (v := .slice A n c) rfl (by kernel_rfl) (by kernel_rfl) (by kernel_rfl) (fun _ _ _ h => h) (Or.inl ⟨by rfl, ?_⟩) (by assumption) ?_
    · (intro w9 hSw; (try dsimp only at hSw); go_simp; try with_reducible rfl)
    try simp only [Act.put, List.setIfInBounds_toArray, List.set_cons_zero, List.set_cons_succ]
    refine wpAnyH_ready (rs := [10, 12]) (by kernel_rfl) (by simp) ?_
    refine AllReadyH.cons (o := ⟨some 24, _, _, _, _, _⟩) rfl (fun K9 hK9 => ?_) ?_
    · skip
      go_simp
      refine hK9.out _ _ ?_ (fun hHeld => ?_)
      · trivial
      clear hK9 K9
      try simp only [Act.put, List.setIfInBounds_toArray, List.set_cons_zero, List.set_cons_succ]
      refine wpAnyH_ready (rs := [11, 12]) (by kernel_rfl) (by simp) ?_
      refine AllReadyH.cons (o := ⟨some 25, _, _, _, _, _⟩) rfl (fun K9 hK9 => ?_) ?_
      · skip
        go_simp; go_at_call 7
        refine (HF3.out _ HB0.out).mono ?_
        rintro e wa ⟨X3, e3, Y3, f3, rfl, hLX3, hLY3, hba⟩
        have hK0 := HK0.out.below hba
        have hK1 := HK1.out.below hba
        have d2 := pcell0 hK1
        have d3 := pcell1 hK1
        have hB1 := bt HB0.out hba
        refine hK9.out _ _ ?_ (fun hHeld => ?_)
        · trivial
        clear hK9 K9
        try simp only [Act.put, List.setIfInBounds_toArray, List.set_cons_zero, List.set_cons_succ]
        refine wpAnyH_ready (rs := [12]) (by kernel_rfl) (by simp) ?_
        refine AllReadyH.cons (o := ⟨some 26, _, _, _, _, _⟩) rfl (fun K9 hK9 => ?_) AllReadyH.nil
        go_simp
        refine hK9.out _ _ ?_ (fun hHeld => ?_)
        · trivial
        clear hK9 K9
        try simp only [Act.put, List.setIfInBounds_toArray, List.set_cons_zero, List.set_cons_succ]
        refine wpAnyH_ready (rs := [13]) (by kernel_rfl) (by simp) ?_
        refine AllReadyH.cons (o := ⟨some 27, _, _, _, _, _⟩) rfl (fun K9 hK9 => ?_) AllReadyH.nil
        go_simp; go_at_call 7
        refine (HF4.out _ hB1).mono ?_
        rintro e wb ⟨X4, e4, Y4, f4, rfl, hLX4, hLY4, hbb⟩
        have hK0b := hK0.below hbb
        have hK1b := hK1.below hbb
        have g0 := pcell0 hK0b
        have g1 := pcell1 hK0b
        have g2 := pcell0 hK1b
        have g3 := pcell1 hK1b
        have f0 := hK0b.frozen 0
        have f1 := hK0b.frozen 1
        have f2 := hK1b.frozen 0
        have f5 := hK1b.frozen 1
        have hK0c := (((hK0b.set_ 0 (.slice X3 u3 e3)).set_ 1 (.slice Y3 v3 f3)).far (p := ⟨w.heap.size + 1, 0, none⟩) (by simp) (.slice X4 u4 e4)).far (p := ⟨w.heap.size + 1, 1, none⟩) (by simp) (.slice Y4 v4 f4)
        have hK1c := (((hK1b.far (p := ⟨w.heap.size, 0, none⟩) (by simp) (.slice X3 u3 e3)).far (p := ⟨w.heap.size, 1, none⟩) (by simp) (.slice Y3 v3 f3)).set_ 0 (.slice X4 u4 e4)).set_ 1 (.slice Y4 v4 f4)
        have hw2 : w.heap.size + 1 + 1 ≤ w1.heap.size := HLT.out
        have hw3 : w.heap.size + 1 + 1 ≤ wa.heap.size := hK1.lt
        have LX3 := Lib.hid (And.intro (((((show LF (w.heap.size + 1 + 1) wb X3 C3 from ((show LF w1.heap.size _ X3 C3 from hLX3).base hw2).later hbb).set_ (b := w.heap.size) (o := 0) (v := .slice X3 u3 e3) (by omega)).set_ (b := w.heap.size) (o := 1) (v := .slice Y3 v3 f3) (by omega)).set_ (b := w.heap.size + 1) (o := 0) (v := .slice X4 u4 e4) (by omega)).set_ (b := w.heap.size + 1) (o := 1) (v := .slice Y4 v4 f4) (by omega)).lr (((((show LF (w.heap.size + 1 + 1) wb Y3 D3 from ((show LF w1.heap.size _ Y3 D3 from hLY3).base hw2).later hbb).set_ (b := w.heap.size) (o := 0) (v := .slice X3 u3 e3) (by omega)).set_ (b := w.heap.size) (o := 1) (v := .slice Y3 v3 f3) (by omega)).set_ (b := w.heap.size + 1) (o := 0) (v := .slice X4 u4 e4) (by omega)).set_ (b := w.heap.size + 1) (o := 1) (v := .slice Y4 v4 f4) (by omega)).lr)
        have LX4 := Lib.hid (And.intro (((((hLX4.base hw3).set_ (b := w.heap.size) (o := 0) (v := .slice X3 u3 e3) (by omega)).set_ (b := w.heap.size) (o := 1) (v := .slice Y3 v3 f3) (by omega)).set_ (b := w.heap.size + 1) (o := 0) (v := .slice X4 u4 e4) (by omega)).set_ (b := w.heap.size + 1) (o := 1) (v := .slice Y4 v4 f4) (by omega)).lr (((((hLY4.base hw3).set_ (b := w.heap.size) (o := 0) (v := .slice X3 u3 e3) (by omega)).set_ (b := w.heap.size) (o := 1) (v := .slice Y3 v3 f3) (by omega)).set_ (b := w.heap.size + 1) (o := 0) (v := .slice X4 u4 e4) (by omega)).set_ (b := w.heap.size + 1) (o := 1) (v := .slice Y4 v4 f4) (by omega)).lr)
        have BB := Lib.hid (bs (b := w.heap.size + 1) (o := 1) (bs (b := w.heap.size + 1) (o := 0) (bs (b := w.heap.size) (o := 1) (bs (b := w.heap.size) (o := 0) (bt hB1 hbb) (by omega) (.slice X3 u3 e3)) (by omega) (.slice Y3 v3 f3)) (by omega) (.slice X4 u4 e4)) (by omega) (.slice Y4 v4 f4))
        have KA := Lib.hid hK0c
        have KB := Lib.hid hK1c
        clear hK0c hK1c hLX3 hLY3 hLX4 hLY4 hbb hba hK0 hK1 hK0b hK1b hB1
        refine hK9.out _ _ ?_ (fun hHeld => ?_)
        · trivial
        clear hK9 K9
        try simp only [Act.put, List.setIfInBounds_toArray, List.set_cons_zero, List.set_cons_succ]
        refine wpAnyH_take (i := 14) (oi := ⟨some 0, _, _, _, _, _⟩) (v := ?_) rfl (by kernel_rfl) (by kernel_rfl) (by kernel_rfl) (fun _ _ _ h => h) (Or.inl ⟨by rfl, ?_⟩) (by assumption) ?_
        rotate_left
        · (intro w9 hSw; (try dsimp only at hSw); go_simp; try with_reducible rfl)
        try simp only [Act.put, List.setIfInBounds_toArray, List.set_cons_zero]
        refine wpAnyH_take (i := 15) (oi := ⟨some 1, _, _, _, _, _⟩) (v := ?_) rfl (by kernel_rfl) (by kernel_rfl) (by kernel_rfl) (fun _ _ _ h => h) (Or.inl ⟨by rfl, ?_⟩) (by assumption) ?_
        rotate_left
        · (intro w9 hSw; (try dsimp only at hSw); go_simp; try with_reducible rfl)
        try simp only [Act.put, List.setIfInBounds_toArray, List.set_cons_zero, List.set_cons_succ]
        refine wpAnyH_ready (rs := [16]) (by kernel_rfl) (by simp) ?_
        refine AllReadyH.cons (o := ⟨none, _, _, _, _, _⟩) rfl (fun K9 hK9 => ?_) AllReadyH.nil
        go_simp
        refine hK9.out _ _ ?_ (fun hHeld => ?_)
        · trivial
        clear hK9 K9
        try simp only [Act.put]
        refine wpAnyH_ready (rs := [17]) (by kernel_rfl) (by simp) ?_
        refine AllReadyH.cons (o := ⟨none, _, _, _, _, _⟩) rfl (fun K9 hK9 => ?_) AllReadyH.nil
        go_simp
        refine hK9.out _ _ ?_ (fun hHeld => ?_)
        · trivial
        clear hK9 K9
        try simp only [Act.put]
        refine wpAnyH_done (by kernel_rfl) ?_ _
        go_wp2_with fail
        go_meet
        exact ⟨rfl, rfl, X3, e3, Y3, f3, X4, e4, Y4, f4, KA, KB, LX3, LX4, BB⟩
      refine AllReadyH.cons (o := ⟨some 26, _, _, _, _, _⟩) rfl (fun K9 hK9 => ?_) AllReadyH.nil
      · skip
        go_simp
        refine hK9.out _ _ ?_ (fun hHeld => ?_)
        · trivial
        clear hK9 K9
        try simp only [Act.put, List.setIfInBounds_toArray, List.set_cons_zero, List.set_cons_succ]
        refine wpAnyH_ready (rs := [11]) (by kernel_rfl) (by simp) ?_
        refine AllReadyH.cons (o := ⟨some 25, _, _, _, _, _⟩) rfl (fun K9 hK9 => ?_) AllReadyH.nil
        go_simp; go_at_call 7
        refine (HF3.out _ HB0.out).mono ?_
        rintro e wa ⟨X3, e3, Y3, f3, rfl, hLX3, hLY3, hba⟩
        have hK0 := HK0.out.below hba
        have hK1 := HK1.out.below hba
        have d2 := pcell0 hK1
        have d3 := pcell1 hK1
        have hB1 := bt HB0.out hba
        refine hK9.out _ _ ?_ (fun hHeld => ?_)
        · trivial
        clear hK9 K9
        try simp only [Act.put, List.setIfInBounds_toArray, List.set_cons_zero, List.set_cons_succ]
        refine wpAnyH_ready (rs := [13]) (by kernel_rfl) (by simp) ?_
        refine AllReadyH.cons (o := ⟨some 27, _, _, _, _, _⟩) rfl (fun K9 hK9 => ?_) AllReadyH.nil
        go_simp; go_at_call 7
        refine (HF4.out _ hB1).mono ?_
        rintro e wb ⟨X4, e4, Y4, f4, rfl, hLX4, hLY4, hbb⟩
        have hK0b := hK0.below hbb
        have hK1b := hK1.below hbb
        have g0 := pcell0 hK0b
        have g1 := pcell1 hK0b
        have g2 := pcell0 hK1b
        have g3 := pcell1 hK1b
        have f0 := hK0b.frozen 0
        have f1 := hK0b.frozen 1
        have f2 := hK1b.frozen 0
        have f5 := hK1b.frozen 1
        have hK0c := (((hK0b.set_ 0 (.slice X3 u3 e3)).set_ 1 (.slice Y3 v3 f3)).far (p := ⟨w.heap.size + 1, 0, none⟩) (by simp) (.slice X4 u4 e4)).far (p := ⟨w.heap.size + 1, 1, none⟩) (by simp) (.slice Y4 v4 f4)
        have hK1c := (((hK1b.far (p := ⟨w.heap.size, 0, none⟩) (by simp) (.slice X3 u3 e3)).far (p := ⟨w.heap.size, 1, none⟩) (by simp) (.slice Y3 v3 f3)).set_ 0 (.slice X4 u4 e4)).set_ 1 (.slice Y4 v4 f4)
        have hw2 : w.heap.size + 1 + 1 ≤ w1.heap.size := HLT.out
        have hw3 : w.heap.size + 1 + 1 ≤ wa.heap.size := hK1.lt
        have LX3 := Lib.hid (And.intro (((((show LF (w.heap.size + 1 + 1) wb X3 C3 from ((show LF w1.heap.size _ X3 C3 from hLX3).base hw2).later hbb).set_ (b := w.heap.size) (o := 0) (v := .slice X3 u3 e3) (by omega)).set_ (b := w.heap.size) (o := 1) (v := .slice Y3 v3 f3) (by omega)).set_ (b := w.heap.size + 1) (o := 0) (v := .slice X4 u4 e4) (by omega)).set_ (b := w.heap.size + 1) (o := 1) (v := .slice Y4 v4 f4) (by omega)).lr (((((show LF (w.heap.size + 1 + 1) wb Y3 D3 from ((show LF w1.heap.size _ Y3 D3 from hLY3).base hw2).later hbb).set_ (b := w.heap.size) (o := 0) (v := .slice X3 u3 e3) (by omega)).set_ (b := w.heap.size) (o := 1) (v := .slice Y3 v3 f3) (by omega)).set_ (b := w.heap.size + 1) (o := 0) (v := .slice X4 u4 e4) (by omega)).set_ (b := w.heap.size + 1) (o := 1) (v := .slice Y4 v4 f4) (by omega)).lr)
        have LX4 := Lib.hid (And.intro (((((hLX4.base hw3).set_ (b := w.heap.size) (o := 0) (v := .slice X3 u3 e3) (by omega)).set_ (b := w.heap.size) (o := 1) (v := .slice Y3 v3 f3) (by omega)).set_ (b := w.heap.size + 1) (o := 0) (v := .slice X4 u4 e4) (by omega)).set_ (b := w.heap.size + 1) (o := 1) (v := .slice Y4 v4 f4) (by omega)).lr (((((hLY4.base hw3).set_ (b := w.heap.size) (o := 0) (v := .slice X3 u3 e3) (by omega)).set_ (b := w.heap.size) (o := 1) (v := .slice Y3 v3 f3) (by omega)).set_ (b := w.heap.size + 1) (o := 0) (v := .slice X4 u4 e4) (by omega)).set_ (b := w.heap.size + 1) (o := 1) (v := .slice Y4 v4 f4) (by omega)).lr)
        have BB := Lib.hid (bs (b := w.heap.size + 1) (o := 1) (bs (b := w.heap.size + 1) (o := 0) (bs (b := w.heap.size) (o := 1) (bs (b := w.heap.size) (o := 0) (bt hB1 hbb) (by omega) (.slice X3 u3 e3)) (by omega) (.slice Y3 v3 f3)) (by omega) (.slice X4 u4 e4)) (by omega) (.slice Y4 v4 f4))
        have KA := Lib.hid hK0c
        have KB := Lib.hid hK1c
        clear hK0c hK1c hLX3 hLY3 hLX4 hLY4 hbb hba hK0 hK1 hK0b hK1b hB1
        refine hK9.out _ _ ?_ (fun hHeld => ?_)
        · trivial
        clear hK9 K9
        try simp only [Act.put, List.setIfInBounds_toArray, List.set_cons_zero, List.set_cons_succ]
        refine wpAnyH_take (i := 14) (oi := ⟨some 0, _, _, _, _, _⟩) (v := ?_) rfl (by kernel_rfl) (by kernel_rfl) (by kernel_rfl) (fun _ _ _ h => h) (Or.inl ⟨by rfl, ?_⟩) (by assumption) ?_
        rotate_left
        · (intro w9 hSw; (try dsimp only at hSw); go_simp; try with_reducible rfl)
        try simp only [Act.put, List.setIfInBounds_toArray, List.set_cons_zero]
        refine wpAnyH_take (i := 15) (oi := ⟨some 1, _, _, _, _, _⟩) (v := ?_) rfl (by kernel_rfl) (by kernel_rfl) (by kernel_rfl) (fun _ _ _ h => h) (Or.inl ⟨by rfl, ?_⟩) (by assumption) ?_
        rotate_left
        · (intro w9 hSw; (try dsimp only at hSw); go_simp; try with_reducible rfl)
        try simp only [Act.put, List.setIfInBounds_toArray, List.set_cons_zero, List.set_cons_succ]
        refine wpAnyH_ready (rs := [16]) (by kernel_rfl) (by simp) ?_
        refine AllReadyH.cons (o := ⟨none, _, _, _, _, _⟩) rfl (fun K9 hK9 => ?_) AllReadyH.nil
        go_simp
        refine hK9.out _ _ ?_ (fun hHeld => ?_)
        · trivial
        clear hK9 K9
        try simp only [Act.put]
        refine wpAnyH_ready (rs := [17]) (by kernel_rfl) (by simp) ?_
        refine AllReadyH.cons (o := ⟨none, _, _, _, _, _⟩) rfl (fun K9 hK9 => ?_) AllReadyH.nil
        go_simp
        refine hK9.out _ _ ?_ (fun hHeld => ?_)
        · trivial
        clear hK9 K9
        try simp only [Act.put]
        refine wpAnyH_done (by kernel_rfl) ?_ _
        go_wp2_with fail
        go_meet
        exact ⟨rfl, rfl, X3, e3, Y3, f3, X4, e4, Y4, f4, KA, KB, LX3, LX4, BB⟩
    refine AllReadyH.cons (o := ⟨some 26, _, _, _, _, _⟩) rfl (fun K9 hK9 => ?_) AllReadyH.nil
    · skip
      go_simp
      refine hK9.out _ _ ?_ (fun hHeld => ?_)
      · trivial
      clear hK9 K9
      try simp only [Act.put, List.setIfInBounds_toArray, List.set_cons_zero, List.set_cons_succ]
      refine wpAnyH_ready (rs := [10]) (by kernel_rfl) (by simp) ?_
      refine AllReadyH.cons (o := ⟨some 24, _, _, _, _, _⟩) rfl (fun K9 hK9 => ?_) AllReadyH.nil
      go_simp
      refine hK9.out _ _ ?_ (fun hHeld => ?_)
      · trivial
      clear hK9 K9
      try simp only [Act.put, List.setIfInBounds_toArray, List.set_cons_zero, List.set_cons_succ]
      refine wpAnyH_ready (rs := [11]) (by kernel_rfl) (by simp) ?_
      refine AllReadyH.cons (o := ⟨some 25, _, _, _, _, _⟩) rfl (fun K9 hK9 => ?_) AllReadyH.nil
      go_simp; go_at_call 7
      refine (HF3.out _ HB0.out).mono ?_
      rintro e wa ⟨X3, e3, Y3, f3, rfl, hLX3, hLY3, hba⟩
      have hK0 := HK0.out.below hba
      have hK1 := HK1.out.below hba
      have d2 := pcell0 hK1
      have d3 := pcell1 hK1
      have hB1 := bt HB0.out hba
      refine hK9.out _ _ ?_ (fun hHeld => ?_)
      · trivial
      clear hK9 K9
      try simp only [Act.put, List.setIfInBounds_toArray, List.set_cons_zero, List.set_cons_succ]
      refine wpAnyH_ready (rs := [13]) (by kernel_rfl) (by simp) ?_
      refine AllReadyH.cons (o := ⟨some 27, _, _, _, _, _⟩) rfl (fun K9 hK9 => ?_) AllReadyH.nil
      go_simp; go_at_call 7
      refine (HF4.out _ hB1).mono ?_
      rintro e wb ⟨X4, e4, Y4, f4, rfl, hLX4, hLY4, hbb⟩
      have hK0b := hK0.below hbb
      have hK1b := hK1.below hbb
      have g0 := pcell0 hK0b
      have g1 := pcell1 hK0b
      have g2 := pcell0 hK1b
      have g3 := pcell1 hK1b
      have f0 := hK0b.frozen 0
      have f1 := hK0b.frozen 1
      have f2 := hK1b.frozen 0
      have f5 := hK1b.frozen 1
      have hK0c := (((hK0b.set_ 0 (.slice X3 u3 e3)).set_ 1 (.slice Y3 v3 f3)).far (p := ⟨w.heap.size + 1, 0, none⟩) (by simp) (.slice X4 u4 e4)).far (p := ⟨w.heap.size + 1, 1, none⟩) (by simp) (.slice Y4 v4 f4)
      have hK1c := (((hK1b.far (p := ⟨w.heap.size, 0, none⟩) (by simp) (.slice X3 u3 e3)).far (p := ⟨w.heap.size, 1, none⟩) (by simp) (.slice Y3 v3 f3)).set_ 0 (.slice X4 u4 e4)).set_ 1 (.slice Y4 v4 f4)
      have hw2 : w.heap.size + 1 + 1 ≤ w1.heap.size := HLT.out
      have hw3 : w.heap.size + 1 + 1 ≤ wa.heap.size := hK1.lt
      have LX3 := Lib.hid (And.intro (((((show LF (w.heap.size + 1 + 1) wb X3 C3 from ((show LF w1.heap.size _ X3 C3 from hLX3).base hw2).later hbb).set_ (b := w.heap.size) (o := 0) (v := .slice X3 u3 e3) (by omega)).set_ (b := w.heap.size) (o := 1) (v := .slice Y3 v3 f3) (by omega)).set_ (b := w.heap.size + 1) (o := 0) (v := .slice X4 u4 e4) (by omega)).set_ (b := w.heap.size + 1) (o := 1) (v := .slice Y4 v4 f4) (by omega)).lr (((((show LF (w.heap.size + 1 + 1) wb Y3 D3 from ((show LF w1.heap.size _ Y3 D3 from hLY3).base hw2).later hbb).set_ (b := w.heap.size) (o := 0) (v := .slice X3 u3 e3) (by omega)).set_ (b := w.heap.size) (o := 1) (v := .slice Y3 v3 f3) (by omega)).set_ (b := w.heap.size + 1) (o := 0) (v := .slice X4 u4 e4) (by omega)).set_ (b := w.heap.size + 1) (o := 1) (v := .slice Y4 v4 f4) (by omega)).lr)
      have LX4 := Lib.hid (And.intro (((((hLX4.base hw3).set_ (b := w.heap.size) (o := 0) (v := .slice X3 u3 e3) (by omega)).set_ (b := w.heap.size) (o := 1) (v := .slice Y3 v3 f3) (by omega)).set_ (b := w.heap.size + 1) (o := 0) (v := .slice X4 u4 e4) (by omega)).set_ (b := w.heap.size + 1) (o := 1) (v := .slice Y4 v4 f4) (by omega)).lr (((((hLY4.base hw3).set_ (b := w.heap.size) (o := 0) (v := .slice X3 u3 e3) (by omega)).set_ (b := w.heap.size) (o := 1) (v := .slice Y3 v3 f3) (by omega)).set_ (b := w.heap.size + 1) (o := 0) (v := .slice X4 u4 e4) (by omega)).set_ (b := w.heap.size + 1) (o := 1) (v := .slice Y4 v4 f4) (by omega)).lr)
      have BB := Lib.hid (bs (b := w.heap.size + 1) (o := 1) (bs (b := w.heap.size + 1) (o := 0) (bs (b := w.heap.size) (o := 1) (bs (b := w.heap.size) (o := 0) (bt hB1 hbb) (by omega) (.slice X3 u3 e3)) (by omega) (.slice Y3 v3 f3)) (by omega) (.slice X4 u4 e4)) (by omega) (.slice Y4 v4 f4))
      have KA := Lib.hid hK0c
      have KB := Lib.hid hK1c
      clear hK0c hK1c hLX3 hLY3 hLX4 hLY4 hbb hba hK0 hK1 hK0b hK1b hB1
      refine hK9.out _ _ ?_ (fun hHeld => ?_)
      · trivial
      clear hK9 K9
      try simp only [Act.put, List.setIfInBounds_toArray, List.set_cons_zero, List.set_cons_succ]
      refine wpAnyH_take (i := 14) (oi := ⟨some 0, _, _, _, _, _⟩) (v := ?_) rfl (by kernel_rfl) (by kernel_rfl) (by kernel_rfl) (fun _ _ _ h => h) (Or.inl ⟨by rfl, ?_⟩) (by assumption) ?_
      rotate_left
      · (intro w9 hSw; (try dsimp only at hSw); go_simp; try with_reducible rfl)
      try simp only [Act.put, List.setIfInBounds_toArray, List.set_cons_zero]
      refine wpAnyH_take (i := 15) (oi := ⟨some 1, _, _, _, _, _⟩) (v := ?_) rfl (by kernel_rfl) (by kernel_rfl) (by kernel_rfl) (fun _ _ _ h => h) (Or.inl ⟨by rfl, ?_⟩) (by assumption) ?_
      rotate_left
      · (intro w9 hSw; (try dsimp only at hSw); go_simp; try with_reducible rfl)
      try simp only [Act.put, List.setIfInBounds_toArray, List.set_cons_zero, List.set_cons_succ]
      refine wpAnyH_ready (rs := [16]) (by kernel_rfl) (by simp) ?_
      refine AllReadyH.cons (o := ⟨none, _, _, _, _, _⟩) rfl (fun K9 hK9 => ?_) AllReadyH.nil
      go_simp
      refine hK9.out _ _ ?_ (fun hHeld => ?_)
      · trivial
      clear hK9 K9
      try simp only [Act.put]
      refine wpAnyH_ready (rs := [17]) (by kernel_rfl) (by simp) ?_
      refine AllReadyH.cons (o := ⟨none, _, _, _, _, _⟩) rfl (fun K9 hK9 => ?_) AllReadyH.nil
      go_simp
      refine hK9.out _ _ ?_ (fun hHeld => ?_)
      · trivial
      clear hK9 K9
      try simp only [Act.put]
      refine wpAnyH_done (by kernel_rfl) ?_ _
      go_wp2_with fail
      go_meet
      exact ⟨rfl, rfl, X3, e3, Y3, f3, X4, e4, Y4, f4, KA, KB, LX3, LX4, BB⟩
    -- end 1
  case rest =>
    clear HK0 HK1 HB0 c0 c1 c2 c5 HLT HF3 HF4 hex hz0 h1 h2 h3 h4 hsl hc0
    obtain ⟨rfl, rfl, X3, e3, Y3, f3, X4, e4, Y4, f4, HK, HP, HR3, HR4, HB⟩ := hcut
    generalize k0.take p = key at *
    have HRR := Lib.hid (fun W (hb : Below w.heap.size w W) => irright_ref A n c L W (hA.later hb) hl9 hc (by omega))
    -- Prove, in its three ways
    obtain ⟨E, nP, GP, FP, HPR, hGP, hFP, hG6, hF6, HCs⟩ : ∃ (E : Int) (nP : Nat) (GP FP : List (List (List UInt8))),
        Hid (∀ W, Below w.heap.size w W → Calls Tryz.prog 8 #[.string ⟨key.toArray⟩, .slice A n c, vu kk] W fun e w' => ∃ X c1 Y c2, e = .returned (.tuple #[.agg #[.slice X nP c1, .slice Y nP c2], .int .i64 E]) ∧ LR w' X GP ∧ LR w' Y FP ∧ Below W.heap.size W w') ∧
        GP.length = nP ∧ FP.length = nP ∧ (∀ j, (GP.getD j []).length ≤ 65536) ∧ (∀ j, (FP.getD j []).length ≤ 65536) ∧
        Hid ((¬ IRt L ∧ E = 1 ∧ nP = 0 ∧ GP = [] ∧ FP = []) ∨ (IRt L ∧ iatZ L kk = -1 ∧ E = 3 ∧ nP = 0 ∧ GP = [] ∧ FP = []) ∨ (IRt L ∧ ∃ j, j < n ∧ iatZ L kk = (j : Int) ∧ E = 0 ∧ nP = 8 ∧ GP = pB key L (j + 1) 8 ∧ FP = pF key L (j + 1) 8)) := by
      by_cases hr : IRt L
      · rcases piat hr kk with hat | ⟨j, hj, hat, _⟩
        · exact ⟨3, 0, [], [], Lib.hid fun W hb => (pProve_none key A n c kk L W (hA.later hb) hl9 hr hat).mono fun e w' ⟨g1, g2⟩ => ⟨none, 0, none, 0, g1, LR.nil _ _, LR.nil _ _, g2⟩, rfl, rfl, by simp, by simp, Lib.hid (.inr (.inl ⟨hr, hat, rfl, rfl, rfl, rfl⟩))⟩
        · obtain ⟨hR1, hR2⟩ := pB_right (k := key) (Z := L) (q := j + 1) (by omega) (by omega)
          exact ⟨0, 8, pB key L (j + 1) 8, pF key L (j + 1) 8, Lib.hid fun W hb => pProve_yes key A n c kk j L W hkl (hA.later hb) hl9 hx9 hr (by omega) hat (hT.later hb), pB_len .., pF_len .., fun i => by have := (hR1.at i).1; omega, fun i => by have := (hR2.at i).1; omega, Lib.hid (.inr (.inr ⟨hr, j, by omega, hat, rfl, rfl, rfl, rfl⟩))⟩
      · exact ⟨1, 0, [], [], Lib.hid fun W hb => (pProve_bad key A n c kk L W (hA.later hb) hl9 (by omega) hr).mono fun e w' ⟨g1, g2⟩ => ⟨none, 0, none, 0, g1, LR.nil _ _, LR.nil _ _, g2⟩, rfl, rfl, by simp, by simp, Lib.hid (.inl ⟨hr, rfl, rfl, rfl, rfl⟩)⟩
    have hnP : nP ≤ 8 := by rcases HCs.out with ⟨_, _, h, _⟩ | ⟨_, _, _, h, _⟩ | ⟨_, _, _, _, _, h, _⟩ <;> omega
    -- the two of a kind
    have TL1 := Lib.hid (fun W (hb : Below wc.heap.size wc W) => plike_any X3 X4 Y3 Y4 e3 e4 f3 f4 u3 u4 v3 v4 C3 C4 D3 D4 W (HR3.out.1.later hb) (HR4.out.1.later hb) (HR3.out.2.later hb) (HR4.out.2.later hb) hu3 hu4 hv3 hv4 (by omega) (by omega) (by omega) (by omega) x3 x4 y3 y4)
    have TL2 := Lib.hid (fun W (hb : Below wc.heap.size wc W) => psame_any X3 X4 Y3 Y4 e3 e4 f3 f4 u3 u4 v3 v4 C3 C4 D3 D4 W (HR3.out.1.later hb) (HR4.out.1.later hb) (HR3.out.2.later hb) (HR4.out.2.later hb) hu3 hu4 hv3 hv4 (by omega) (by omega) (by omega) (by omega) x3 x4 y3 y4)
    have TL3 := Lib.hid (fun W (hb : Below wc.heap.size wc W) => plike_any X3 X3 Y3 Y3 e3 e3 f3 f3 u3 u3 v3 v3 C3 C3 D3 D3 W (HR3.out.1.later hb) (HR3.out.1.later hb) (HR3.out.2.later hb) (HR3.out.2.later hb) hu3 hu3 hv3 hv3 (by omega) (by omega) (by omega) (by omega) x3 x3 y3 y3)
    rw [decide_eq_true ⟨rfl, rfl⟩] at TL3
    generalize decide (C3 = C4 ∧ D3 = D4) = qq at TL1 TL2
    have TS2 := Lib.hid (fun X Y c1 c2 X' Y' c1' c2' W (g1 : LR W X GP) (g2 : LR W Y FP) (g3 : LR W X' GP) (g4 : LR W Y' FP) => by
      have := psame_any X X' Y Y' c1 c1' c2 c2' nP nP nP nP GP GP FP FP W g1 g3 g2 g4 hGP hGP hFP hFP (by omega) (by omega) (by omega) (by omega) hG6 hG6 hF6 hF6
      rwa [decide_eq_true (show GP = GP ∧ FP = FP from ⟨rfl, rfl⟩)] at this)
    clear x3 x4 y3 y4 hu3 hu4 hv3 hv4 s3 s4 t3 t4 hG6 hF6
    go_wp2_with fail
    refine (HPR.out _ HB.out).mono ?_
    rintro e w2 ⟨X, c1, Y, c2, rfl, hX, hY, hb2⟩
    have hba := ba (Below.refl w2.heap.size w2) (.cells #[.slice X nP c1, .slice Y nP c2] 26)
    have KP3 := Lib.hid (Blk.new w2 26 #[.slice X nP c1, .slice Y nP c2])
    have HX3 := Lib.hid (hX.later hba)
    have HY3 := Lib.hid (hY.later hba)
    have HD3 := Lib.hid (bt hb2 hba)
    clear hX hY hb2 hba HPR
    go_wp2_with fail
    generalize w2.alloc (.cells #[.slice X nP c1, .slice Y nP c2] 26) = w3 at *
    generalize w2.heap.size = bp at *
    -- region 3
    refine wp_region_held_drew (S := fun W => Below w3.heap.size w3 W) (by kernel_rfl) (by first | exact Below.refl _ _ | exact (Below.refl _ _).drew) (fun hHeld => ?_)
    refine wpAnyH_take (i := 0) (oi := ⟨some 35, _, _, _, _, _⟩) (v := .agg #[.slice X3 u3 e3, .slice Y3 v3 f3]) rfl (by kernel_rfl) (by kernel_rfl) (by kernel_rfl) (fun _ _ _ h => h) (Or.inl ⟨by rfl, ?_⟩) (by assumption) ?_
    · (intro w9 hSw; have q8 := pcell0 (HK.out.below (bt HD3.out hSw)); have q9 := pcell1 (HK.out.below (bt HD3.out hSw)); (try dsimp only at hSw); go_simp; try with_reducible rfl)
    try simp only [Act.put, List.setIfInBounds_toArray, List.set_cons_zero, List.set_cons_succ]
    refine wpAnyH_take (i := 1) (oi := ⟨some 36, _, _, _, _, _⟩) (v := .agg #[.slice X4 u4 e4, .slice Y4 v4 f4]) rfl (by kernel_rfl) (by kernel_rfl) (by kernel_rfl) (fun _ _ _ h => h) (Or.inl ⟨by rfl, ?_⟩) (by assumption) ?_
    · (intro w9 hSw; have q8 := pcell0 (HP.out.below (bt HD3.out hSw)); have q9 := pcell1 (HP.out.below (bt HD3.out hSw)); (try dsimp only at hSw); go_simp; try with_reducible rfl)
    try simp only [Act.put, List.setIfInBounds_toArray, List.set_cons_zero, List.set_cons_succ]
    refine wpAnyH_take (i := 3) (oi := ⟨some 38, _, _, _, _, _⟩) (v := .agg #[.slice X3 u3 e3, .slice Y3 v3 f3]) rfl (by kernel_rfl) (by kernel_rfl) (by kernel_rfl) (fun _ _ _ h => h) (Or.inl ⟨by rfl, ?_⟩) (by assumption) ?_
    · (intro w9 hSw; have q8 := pcell0 (HK.out.below (bt HD3.out hSw)); have q9 := pcell1 (HK.out.below (bt HD3.out hSw)); (try dsimp only at hSw); go_simp; try with_reducible rfl)
    try simp only [Act.put, List.setIfInBounds_toArray, List.set_cons_zero, List.set_cons_succ]
    refine wpAnyH_take (i := 4) (oi := ⟨some 39, _, _, _, _, _⟩) (v := .agg #[.slice X4 u4 e4, .slice Y4 v4 f4]) rfl (by kernel_rfl) (by kernel_rfl) (by kernel_rfl) (fun _ _ _ h => h) (Or.inl ⟨by rfl, ?_⟩) (by assumption) ?_
    · (intro w9 hSw; have q8 := pcell0 (HP.out.below (bt HD3.out hSw)); have q9 := pcell1 (HP.out.below (bt HD3.out hSw)); (try dsimp only at hSw); go_simp; try with_reducible rfl)
    try simp only [Act.put, List.setIfInBounds_toArray, List.set_cons_zero, List.set_cons_succ]
    refine wpAnyH_ready (rs := [2]) (by kernel_rfl) (by simp) ?_
    refine AllReadyH.cons (o := ⟨some 37, _, _, _, _, _⟩) rfl (fun K9 hK9 => ?_) AllReadyH.nil
    go_simp; go_at_call 9
    refine (TL1.out w3.drew HD3.out.drew).mono ?_
    rintro e wa ⟨rfl, hba⟩
    have hS1 := bt (Below.refl w3.heap.size w3).drew hba
    refine hK9.out _ _ ?_ (fun hHeld => ?_)
    · exact hS1
    clear hK9 K9
    try simp only [Act.put, List.setIfInBounds_toArray, List.set_cons_zero, List.set_cons_succ]
    refine wpAnyH_ready (rs := [5]) (by kernel_rfl) (by simp) ?_
    refine AllReadyH.cons (o := ⟨some 40, _, _, _, _, _⟩) rfl (fun K9 hK9 => ?_) AllReadyH.nil
    go_simp; go_at_call 10
    refine (TL2.out _ (bt HD3.out hS1)).mono ?_
    rintro e wb ⟨rfl, hbb⟩
    have hS2 := bt hS1 hbb
    refine hK9.out _ _ ?_ (fun hHeld => ?_)
    · exact hS2
    clear hK9 K9
    try simp only [Act.put, List.setIfInBounds_toArray, List.set_cons_zero, List.set_cons_succ]
    refine wpAnyH_take (i := 6) (oi := ⟨some 41, _, _, _, _, _⟩) (v := .bool false) rfl (by kernel_rfl) (by kernel_rfl) (by kernel_rfl) (fun _ _ _ h => h) (Or.inl ⟨by rfl, ?_⟩) (by assumption) ?_
    · (intro w9 hSw; (try dsimp only at hSw); go_simp; try with_reducible rfl)
    try simp only [Act.put, List.setIfInBounds_toArray, List.set_cons_zero, List.set_cons_succ]
    refine wpAnyH_take (i := 7) (oi := ⟨some 42, _, _, _, _, _⟩) (v := .bool false) rfl (by kernel_rfl) (by kernel_rfl) (by kernel_rfl) (fun _ _ _ h => h) (Or.inl ⟨by rfl, ?_⟩) (by assumption) ?_
    · (intro w9 hSw; (try dsimp only at hSw); go_simp; try with_reducible rfl)
    try simp only [Act.put, List.setIfInBounds_toArray, List.set_cons_zero, List.set_cons_succ]
    refine wpAnyH_take (i := 8) (oi := ⟨some 43, _, _, _, _, _⟩) (v := .agg #[.slice X3 u3 e3, .slice Y3 v3 f3]) rfl (by kernel_rfl) (by kernel_rfl) (by kernel_rfl) (fun _ _ _ h => h) (Or.inl ⟨by rfl, ?_⟩) (by assumption) ?_
    · (intro w9 hSw; have q8 := pcell0 (HK.out.below (bt HD3.out hSw)); have q9 := pcell1 (HK.out.below (bt HD3.out hSw)); (try dsimp only at hSw); go_simp; try with_reducible rfl)
    try simp only [Act.put, List.setIfInBounds_toArray, List.set_cons_zero, List.set_cons_succ]
    refine wpAnyH_take (i := 9) (oi := ⟨some 44, _, _, _, _, _⟩) (v := .agg #[.slice X3 u3 e3, .slice Y3 v3 f3]) rfl (by kernel_rfl) (by kernel_rfl) (by kernel_rfl) (fun _ _ _ h => h) (Or.inl ⟨by rfl, ?_⟩) (by assumption) ?_
    · (intro w9 hSw; have q8 := pcell0 (HK.out.below (bt HD3.out hSw)); have q9 := pcell1 (HK.out.below (bt HD3.out hSw)); (try dsimp only at hSw); go_simp; try with_reducible rfl)
    try simp only [Act.put, List.setIfInBounds_toArray, List.set_cons_zero, List.set_cons_succ]
    refine wpAnyH_ready (rs := [10]) (by kernel_rfl) (by simp) ?_
    refine AllReadyH.cons (o := ⟨some 45, _, _, _, _, _⟩) rfl (fun K9 hK9 => ?_) AllReadyH.nil
    go_simp; go_at_call 9
    refine (TL3.out _ (bt HD3.out hS2)).mono ?_
    rintro e we ⟨rfl, hbe⟩
    have hS3 := bt hS2 hbe
    refine hK9.out _ _ ?_ (fun hHeld => ?_)
    · exact hS3
    clear hK9 K9
    try simp only [Act.put, List.setIfInBounds_toArray, List.set_cons_zero, List.set_cons_succ]
    refine wpAnyH_take (i := 11) (oi := ⟨some 46, _, _, _, _, _⟩) (v := .bool false) rfl (by kernel_rfl) (by kernel_rfl) (by kernel_rfl) (fun _ _ _ h => h) (Or.inl ⟨by rfl, ?_⟩) (by assumption) ?_
    · (intro w9 hSw; (try dsimp only at hSw); go_simp; try with_reducible rfl)
    try simp only [Act.put, List.setIfInBounds_toArray, List.set_cons_zero, List.set_cons_succ]
    refine wpAnyH_take (i := 12) (oi := ⟨some 47, _, _, _, _, _⟩) (v := .bool false) rfl (by kernel_rfl) (by kernel_rfl) (by kernel_rfl) (fun _ _ _ h => h) (Or.inl ⟨by rfl, ?_⟩) (by assumption) ?_
    · (intro w9 hSw; (try dsimp only at hSw); go_simp; try with_reducible rfl)
    try simp only [Act.put, List.setIfInBounds_toArray, List.set_cons_zero, List.set_cons_succ]
    refine wpAnyH_take (i := 13) (oi := ⟨some 48, _, _, _, _, _⟩) (v := .bool false) rfl (by kernel_rfl) (by kernel_rfl) (by kernel_rfl) (fun _ _ _ h => h) (Or.inl ⟨by rfl, ?_⟩) (by assumption) ?_
    · (intro w9 hSw; (try dsimp only at hSw); go_simp; try with_reducible rfl)
    try simp only [Act.put, List.setIfInBounds_toArray, List.set_cons_zero, List.set_cons_succ]
    refine wpAnyH_ready (rs := [14]) (by kernel_rfl) (by simp) ?_
    refine AllReadyH.cons (o := ⟨some 49, _, _, _, _, _⟩) rfl (fun K9 hK9 => ?_) AllReadyH.nil
    go_simp; go_at_call 11
    refine (HAL.out _ (bt HB.out (bt HD3.out hS3))).mono ?_
    rintro e wg ⟨rfl, hbg⟩
    have hS4 := bt hS3 hbg
    refine hK9.out _ _ ?_ (fun hHeld => ?_)
    · exact hS4
    clear hK9 K9
    try simp only [Act.put, List.setIfInBounds_toArray, List.set_cons_zero, List.set_cons_succ]
    refine wpAnyH_take (i := 15) (oi := ⟨some 50, _, _, _, _, _⟩) (v := .bool false) rfl (by kernel_rfl) (by kernel_rfl) (by kernel_rfl) (fun _ _ _ h => h) (Or.inl ⟨by rfl, ?_⟩) (by assumption) ?_
    · (intro w9 hSw; (try dsimp only at hSw); go_simp; try with_reducible rfl)
    try simp only [Act.put, List.setIfInBounds_toArray, List.set_cons_zero, List.set_cons_succ]
    refine wpAnyH_take (i := 16) (oi := ⟨some 51, _, _, _, _, _⟩) (v := .bool false) rfl (by kernel_rfl) (by kernel_rfl) (by kernel_rfl) (fun _ _ _ h => h) (Or.inl ⟨by rfl, ?_⟩) (by assumption) ?_
    · (intro w9 hSw; (try dsimp only at hSw); go_simp; try with_reducible rfl)
    try simp only [Act.put, List.setIfInBounds_toArray, List.set_cons_zero, List.set_cons_succ]
    refine wpAnyH_done (by kernel_rfl) ?_ _
    have HD4 := Lib.hid (bt HD3.out hS4)
    have KP4 := Lib.hid (KP3.out.below hS4)
    have HX4 := Lib.hid (HX3.out.later hS4)
    have HY4 := Lib.hid (HY3.out.later hS4)
    clear hS1 hS2 hS3 hS4 hba hbb hbe hbg HD3 KP3 HX3 HY3 HK HP TL1 TL2 TL3 HR3 HR4
    go_wp2_with fail
    refine (HRR.out _ (bt HB.out HD4.out)).mono ?_
    rintro e w5 ⟨rfl, hb5⟩
    have HD5 := Lib.hid (bt HD4.out hb5)
    have KP5 := Lib.hid (KP4.out.below hb5)
    have HX5 := Lib.hid (HX4.out.later hb5)
    have HY5 := Lib.hid (HY4.out.later hb5)
    clear hb5 HD4 KP4 HX4 HY4 HRR
    rcases HCs.out with ⟨hr, rfl, rfl, rfl, rfl⟩ | ⟨hr, hat, rfl, rfl, rfl, rfl⟩ | ⟨hr, j, hj, hat, rfl, rfl, rfl, rfl⟩
    · rw [decide_eq_false hr]
      have q0 := pcell0 KP5.out
      have q1 := pcell1 KP5.out
      have TS3 := Lib.hid (TS2.out X Y c1 c2 none none 0 0 w5 HX5.out HY5.out (LR.nil _ _) (LR.nil _ _))
      clear hA hl9 hx9 hkl hT hr TS2 HCs
      go_wp2_with fail
      refine TS3.out.mono ?_
      rintro e w6 ⟨rfl, hb6⟩
      have hb9 := bt HB.out (bt HD5.out hb6)
      go_wp2
      go_ret
      exact ⟨rfl, hb9⟩
    · rw [decide_eq_true hr]
      have HAT := Lib.hid (irat_any A n c kk L w5 (hA.later (bt HB.out HD5.out)) hl9 hr.up (by omega))
      rw [hat] at HAT
      clear hA hl9 hx9 hkl hT hr HCs hat
      go_wp2_with fail
      refine HAT.out.mono ?_
      rintro e w6 ⟨rfl, hb6⟩
      have KP6 := KP5.out.below hb6
      have q0 := pcell0 KP6
      have q1 := pcell1 KP6
      have TS3 := Lib.hid (TS2.out X Y c1 c2 none none 0 0 w6 (HX5.out.later hb6) (HY5.out.later hb6) (LR.nil _ _) (LR.nil _ _))
      have HD6 := Lib.hid (bt HD5.out hb6)
      clear hb6 KP6 HX5 HY5 KP5 HD5 TS2 HAT
      go_wp2_with fail
      refine TS3.out.mono ?_
      rintro e w7 ⟨rfl, hb7⟩
      have hb9 := bt HB.out (bt HD6.out hb7)
      go_wp2
      go_ret
      exact ⟨rfl, hb9⟩
    · rw [decide_eq_true hr]
      have HAT := Lib.hid (irat_any A n c kk L w5 (hA.later (bt HB.out HD5.out)) hl9 hr.up (by omega))
      rw [hat] at HAT
      have TLi := Lib.hid (fun W (hb : Below w.heap.size w W) => yrlist_any key A n c L W hkl (hA.later hb) hl9 (by omega) hx9)
      have TRP := Lib.hid (fun g cB W (hb : Below w.heap.size w W) (hV : VR vi W (some ⟨g, 0, none⟩) (hsL key (ikeys L))) => by
        have := prprove_any key (j + 1) n c cB A (some ⟨g, 0, none⟩) L W (hA.later hb) hV hl9 (by omega) (by omega) hx9 (fun x hx => by
          obtain ⟨i, hi, rfl⟩ := List.getElem_of_mem hx
          have := hr.2.1 i hi
          have e9 : L.getD i (0, []) = L[i] := by simp [List.getD, hi]
          rw [e9] at this
          omega)
        rwa [show (((j + 1 : Nat)) : Int) - 1 = (j : Int) by omega] at this)
      have j0 : ¬ (j : Int) < 0 := by omega
      clear hA hl9 hx9 hkl hT hr HCs hat
      go_wp2_with fail
      refine HAT.out.mono ?_
      rintro e w6 ⟨rfl, hb6⟩
      have HD6 := Lib.hid (bt HD5.out hb6)
      have KP6 := Lib.hid (KP5.out.below hb6)
      have HX6 := Lib.hid (HX5.out.later hb6)
      have HY6 := Lib.hid (HY5.out.later hb6)
      clear hb6 KP5 HX5 HY5 HD5 HAT
      go_wp2_with fail
      refine wp_region_held_drew (S := fun W => Below w6.heap.size w6 W) (by kernel_rfl) (by first | exact Below.refl _ _ | exact (Below.refl _ _).drew) (fun hHeld => ?_)
      refine wpAnyH_take (i := 0) (oi := ⟨some 74, _, _, _, _, _⟩) (v := ?_) rfl (by kernel_rfl) (by kernel_rfl) (by kernel_rfl) (fun _ _ _ h => h) (Or.inl ⟨by rfl, ?_⟩) (by assumption) ?_
      rotate_left
      · (intro w9 hSw; (try dsimp only at hSw); go_simp; try with_reducible rfl)
      try simp only [Act.put, List.setIfInBounds_toArray, List.set_cons_zero, List.set_cons_succ]
      refine wpAnyH_take (i := 1) (oi := ⟨some 75, _, _, _, _, _⟩) (v := .bool true) rfl (by kernel_rfl) (by kernel_rfl) (by kernel_rfl) (fun _ _ _ h => h) (Or.inl ⟨by rfl, ?_⟩) (by assumption) ?_
      · (intro w9 hSw; (try dsimp only at hSw); go_simp; try with_reducible rfl)
      try simp only [Act.put, List.setIfInBounds_toArray, List.set_cons_zero, List.set_cons_succ]
      refine wpAnyH_take (i := 2) (oi := ⟨some 76, _, _, _, _, _⟩) (v := .bool true) rfl (by kernel_rfl) (by kernel_rfl) (by kernel_rfl) (fun _ _ _ h => h) (Or.inl ⟨by rfl, ?_⟩) (by assumption) ?_
      · (intro w9 hSw; (try dsimp only at hSw); go_simp; try with_reducible rfl)
      try simp only [Act.put, List.setIfInBounds_toArray, List.set_cons_zero, List.set_cons_succ]
      refine wpAnyH_take (i := 3) (oi := ⟨some 77, _, _, _, _, _⟩) (v := .agg #[.slice X 8 c1, .slice Y 8 c2]) rfl (by kernel_rfl) (by kernel_rfl) (by kernel_rfl) (fun _ _ _ h => h) (Or.inl ⟨by rfl, ?_⟩) (by assumption) ?_
      · (intro w9 hSw; have q8 := pcell0 (KP6.out.below hSw); have q9 := pcell1 (KP6.out.below hSw); (try dsimp only at hSw); go_simp; try with_reducible rfl)
      try simp only [Act.put, List.setIfInBounds_toArray, List.set_cons_zero, List.set_cons_succ]
      refine wpAnyH_take (i := 4) (oi := ⟨some 78, _, _, _, _, _⟩) (v := ?_) rfl (by kernel_rfl) (by kernel_rfl) (by kernel_rfl) (fun _ _ _ h => h) (Or.inl ⟨by rfl, ?_⟩) (by assumption) ?_
      rotate_left
      · (intro w9 hSw; (try dsimp only at hSw); go_simp; try with_reducible rfl)
      try simp only [Act.put, List.setIfInBounds_toArray, List.set_cons_zero, List.set_cons_succ]
      refine wpAnyH_take (i := 5) (oi := ⟨some 79, _, _, _, _, _⟩) (v := ?_) rfl (by kernel_rfl) (by kernel_rfl) (by kernel_rfl) (fun _ _ _ h => h) (Or.inl ⟨by rfl, ?_⟩) (by assumption) ?_
      rotate_left
      · (intro w9 hSw; (try dsimp only at hSw); go_simp; try with_reducible rfl)
      try simp only [Act.put, List.setIfInBounds_toArray, List.set_cons_zero, List.set_cons_succ]
      refine wpAnyH_take (i := 7) (oi := ⟨some 81, _, _, _, _, _⟩) (v := ?_) rfl (by kernel_rfl) (by kernel_rfl) (by kernel_rfl) (fun _ _ _ h => h) (Or.inl ⟨by rfl, ?_⟩) (by assumption) ?_
      rotate_left
      · (intro w9 hSw; (try dsimp only at hSw); go_simp; try with_reducible rfl)
      try simp only [Act.put, List.setIfInBounds_toArray, List.set_cons_zero, List.set_cons_succ]
      refine wpAnyH_ready (rs := [6]) (by kernel_rfl) (by simp) ?_
      refine AllReadyH.cons (o := ⟨some 80, _, _, _, _, _⟩) rfl (fun K9 hK9 => ?_) AllReadyH.nil
      go_simp; go_at_call 15
      refine (TLi.out w6.drew (bt HB.out HD6.out.drew)).mono ?_
      rintro e wa ⟨gL, cL, rfl, hVL, hba⟩
      have hS1 := bt (Below.refl w6.heap.size w6).drew hba
      refine hK9.out _ _ ?_ (fun hHeld => ?_)
      · exact hS1
      clear hK9 K9
      try simp only [Act.put, List.setIfInBounds_toArray, List.set_cons_zero, List.set_cons_succ]
      refine wpAnyH_ready (rs := [8]) (by kernel_rfl) (by simp) ?_
      refine AllReadyH.cons (o := ⟨some 82, _, _, _, _, _⟩) rfl (fun K9 hK9 => ?_) AllReadyH.nil
      go_simp; go_at_call 14
      refine (TRP.out gL cL wa (bt HB.out (bt HD6.out hS1)) hVL).mono ?_
      rintro e wb ⟨X5, c5, Y5, f5, rfl, hX5, hY5, hbb⟩
      have hS2 := bt hS1 hbb
      refine hK9.out _ _ ?_ (fun hHeld => ?_)
      · exact hS2
      clear hK9 K9
      try simp only [Act.put, List.setIfInBounds_toArray, List.set_cons_zero, List.set_cons_succ]
      refine wpAnyH_ready (rs := [9]) (by kernel_rfl) (by simp) ?_
      refine AllReadyH.cons (o := ⟨some 83, _, _, _, _, _⟩) rfl (fun K9 hK9 => ?_) AllReadyH.nil
      go_simp; go_at_call 10
      refine (TS2.out X Y c1 c2 X5 Y5 c5 f5 wb (HX6.out.later hS2) (HY6.out.later hS2) hX5 hY5).mono ?_
      rintro e we ⟨rfl, hbe⟩
      have hS3 := bt hS2 hbe
      refine hK9.out _ _ ?_ (fun hHeld => ?_)
      · exact hS3
      clear hK9 K9
      try simp only [Act.put, List.setIfInBounds_toArray, List.set_cons_zero, List.set_cons_succ]
      refine wpAnyH_take (i := 10) (oi := ⟨some 84, _, _, _, _, _⟩) (v := .bool true) rfl (by kernel_rfl) (by kernel_rfl) (by kernel_rfl) (fun _ _ _ h => h) (Or.inl ⟨by rfl, ?_⟩) (by assumption) ?_
      · (intro w9 hSw; (try dsimp only at hSw); go_simp; try with_reducible rfl)
      try simp only [Act.put, List.setIfInBounds_toArray, List.set_cons_zero, List.set_cons_succ]
      refine wpAnyH_take (i := 11) (oi := ⟨some 10, _, _, _, _, _⟩) (v := ?_) rfl (by kernel_rfl) (by kernel_rfl) (by kernel_rfl) (fun _ _ _ h => h) (Or.inl ⟨by rfl, ?_⟩) (by assumption) ?_
      rotate_left
      · (intro w9 hSw; (try dsimp only at hSw); go_simp; try with_reducible rfl)
      try simp only [Act.put, List.setIfInBounds_toArray, List.set_cons_zero, List.set_cons_succ]
      refine wpAnyH_done (by kernel_rfl) ?_ _
      have hb9 := bt HB.out (bt HD6.out hS3)
      go_wp2
      go_ret
      exact ⟨rfl, hb9⟩
    -- end 3
end Go.Proofs.YtjonhenllhnibaaGreatDoor
