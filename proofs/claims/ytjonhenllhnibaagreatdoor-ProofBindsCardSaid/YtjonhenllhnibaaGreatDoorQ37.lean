/- Texts of this seat, one behind the other: PLawB. -/
import Derived.Test.YtjonhenllhnibaaGreatDoorQ34
/- The walk of ProofBinds. -/
namespace Go.Proofs.YtjonhenllhnibaaGreatDoor
open Go.RowKit

set_option maxRecDepth 100000 in
set_option maxHeartbeats 16000000 in
theorem plawB_any (k0 : List UInt8) (A : Option Addr) (c xk : Nat) (xs : List UInt8) (L0 : List ItL) (A3 B3 : Option Addr) (c3 d3 : Nat) (G F : List (List (List UInt8))) (w : World) (hA0 : IR w A L0) (hc0 : L0.length ≤ c) (hx0 : ∀ x ∈ L0, x.1 < 18446744073709551616) (hk : xk < 18446744073709551616)
    (hG : LR w A3 G) (hF : LR w B3 F) (hc3 : G.length ≤ c3) (hd3 : F.length ≤ d3) (hs : PSmall G) (ht : PSmall F) (hT : VTab w) :
    Calls Tryz.prog 6 #[.string ⟨k0.toArray⟩, .slice A L0.length c, piv xk xs, pfv A3 G.length c3 B3 F.length d3] w fun e w' => e = .returned (.bool true) ∧ Below w.heap.size w w' := by
  have HFW := Lib.hid (fun W (hb : Below w.heap.size w W) => pfew_any A3 B3 c3 _ d3 _ G F W (hG.later hb) (hF.later hb) rfl rfl hc3 hd3 hs ht)
  have HAL := Lib.hid (fun W (hb : Below w.heap.size w W) => palive_any W (hT.later hb))
  have hnG := (pcut_small G).1
  have hnF := (pcut_small F).1
  have hG6 := pcut66 G
  have hF6 := pcut66 F
  have hz0 := size_mk k0
  have hz1 := size_mk xs
  obtain ⟨n3, hn3⟩ : ∃ n3, G.length = n3 := ⟨_, rfl⟩
  obtain ⟨m3, hm3⟩ : ∃ m3, F.length = m3 := ⟨_, rfl⟩
  obtain ⟨N, hN⟩ : ∃ N, k0.length = N := ⟨_, rfl⟩
  obtain ⟨M, hM⟩ : ∃ M, L0.length = M := ⟨_, rfl⟩
  obtain ⟨xl, hxl⟩ : ∃ xl, xs.length = xl := ⟨_, rfl⟩
  rw [hn3, hm3] at HFW ⊢
  rw [hN] at hz0
  rw [hxl] at hz1
  rw [hM] at hc0 ⊢
  obtain ⟨p, hp⟩ : ∃ p, min N 80 = p := ⟨_, rfl⟩
  obtain ⟨n, hn⟩ : ∃ n, min M 12 = n := ⟨_, rfl⟩
  obtain ⟨a, ha⟩ : ∃ a, min xl 64 = a := ⟨_, rfl⟩
  have hex := extract_take k0 p
  have hex2 := extract_take xs a
  have hkl : (k0.take p).length ≤ 60000 := by rw [List.length_take]; omega
  have hvl : (xs.take a).length ≤ 64 := by rw [List.length_take]; omega
  have hl9 : (L0.take n).length = n := by rw [List.length_take]; omega
  have hA : IR w A (L0.take n) := hA0.take n
  have hx9 : ∀ x ∈ L0.take n, x.1 < 18446744073709551616 := fun x hx => hx0 x (List.mem_of_mem_take hx)
  have h1 : (p : Int) ≤ (N : Int) := by omega
  have h2 : min (N : Int) 80 = (p : Int) := by omega
  have h3 : p ≤ N := by omega
  have h4 : min (M : Int) 12 = (n : Int) := by omega
  have h5 : (a : Int) ≤ (xl : Int) := by omega
  have h6 : min (xl : Int) 64 = (a : Int) := by omega
  have h7 : a ≤ xl := by omega
  have hsl := icut_run A M c n (by omega)
  have hn12 : n ≤ 12 := by omega
  have hc : n ≤ c := by omega
  clear hA0 hp hn ha hN hM hxl hx0 hG hF hc3 hd3 hs ht hn3 hm3
  generalize L0.take n = L at *
  generalize hGG : pcut G = CG at *
  generalize hFF : pcut F = CF at *
  clear hGG hFF
  obtain ⟨nG, hng⟩ : ∃ nG, CG.length = nG := ⟨_, rfl⟩
  obtain ⟨nF, hnf⟩ : ∃ nF, CF.length = nF := ⟨_, rfl⟩
  rw [hng] at hnG HFW
  rw [hnf] at hnF HFW
  have hb0 := pbx_below w xk xs A3 n3 c3 B3 m3 d3
  have hk0 : Blk (pbx w xk xs A3 n3 c3 B3 m3 d3) w.heap.size 42 #[.int .u64 (xk : Int), sv xs] := (Blk.new w _ _).alloc _
  have hk1 : Blk (pbx w xk xs A3 n3 c3 B3 m3 d3) (w.heap.size + 1) 26 #[.slice A3 n3 c3, .slice B3 m3 d3] := Blk.newAt (by simp) _ _
  unfold pbx at *
  go_enter Tryz.func6, Tryz.ntmps6
  go_upto_region 1 with fail
  generalize (w.alloc (.cells #[.int .u64 (xk : Int), sv xs] 42)).alloc (.cells #[.slice A3 n3 c3, .slice B3 m3 d3] 26) = w1 at hk0 hk1 hb0 ⊢
  have HK0 := Lib.hid (show Blk w1.drew w.heap.size 42 #[.int .u64 (xk : Int), sv xs] from hk0)
  have HK1 := Lib.hid (show Blk w1.drew (w.heap.size + 1) 26 #[.slice A3 n3 c3, .slice B3 m3 d3] from hk1)
  have HB0 := Lib.hid hb0.drew
  have c0 := pcell0 hk0
  have c1 := pcell1 hk0
  have c2 := pcell0 hk1
  have c4 := pcell1 hk1
  have HLT := Lib.hid hk1.lt
  clear hk0 hk1 hb0
  go_cut [0, 1] from 15 to 35 (fun s0 s1 wx => s0 = .string ⟨(k0.take p).toArray⟩ ∧ s1 = .slice A n c ∧ ∃ X c1 Y c2, Hid (Blk wx w.heap.size 42 #[.int .u64 (xk : Int), sv (xs.take a)]) ∧ Hid (Blk wx (w.heap.size + 1) 26 #[.slice X nG c1, .slice Y nF c2]) ∧ Hid (LR wx X CG) ∧ Hid (LR wx Y CF) ∧ Hid (Below w.heap.size w wx))
  case first =>
    -- region 1
    refine wp_region_held_drew (S := fun _ => True) (by kernel_rfl) trivial (fun hHeld => ?_)
    refine wpAnyH_take (i := 0) (oi := ⟨some 15, _, _, _, _, _⟩) (v := ?_) rfl (by kernel_rfl) (by kernel_rfl) (by kernel_rfl) (fun _ _ _ h => h) (Or.inl ⟨by rfl, ?_⟩) (by assumption) ?_
    rotate_left
    · (intro w9 hSw; (try dsimp only at hSw); go_simp; try with_reducible rfl)
    try simp only [Act.put, List.setIfInBounds_toArray, List.set_cons_zero, List.set_cons_succ]
    refine wpAnyH_take (i := 1) (oi := ⟨some 16, _, _, _, _, _⟩) (v := ?_) rfl (by kernel_rfl) (by kernel_rfl) (by kernel_rfl) (fun _ _ _ h => h) (Or.inl ⟨by rfl, ?_⟩) (by assumption) ?_
    rotate_left
    · (intro w9 hSw; (try dsimp only at hSw); go_simp; try with_reducible rfl)
    try simp only [Act.put, List.setIfInBounds_toArray, List.set_cons_zero, List.set_cons_succ]
    refine wpAnyH_take (i := 2) (oi := ⟨some 17, _, _, _, _, _⟩) (v := .int .i64 (N : Int)) rfl (by kernel_rfl) (by kernel_rfl) (by kernel_rfl) (fun _ _ _ h => h) (Or.inl ⟨by rfl, ?_⟩) (by assumption) ?_
    · (intro w9 hSw; (try dsimp only at hSw); go_simp; try with_reducible rfl)
    try simp only [Act.put, List.setIfInBounds_toArray, List.set_cons_zero, List.set_cons_succ]
    refine wpAnyH_take (i := 3) (oi := ⟨some 18, _, _, _, _, _⟩) (v := .int .i64 (p : Int)) rfl (by kernel_rfl) (by kernel_rfl) (by kernel_rfl) (fun _ _ _ h => h) (Or.inl ⟨by rfl, ?_⟩) (by assumption) ?_
    · (intro w9 hSw; (try dsimp only at hSw); go_simp; try with_reducible rfl)
    try simp only [Act.put, List.setIfInBounds_toArray, List.set_cons_zero, List.set_cons_succ]
    refine wpAnyH_take (i := 4) (oi := ⟨some 19, _, _, _, _, _⟩) (v := sv (k0.take p)) rfl (by kernel_rfl) (by kernel_rfl) (by kernel_rfl) (fun _ _ _ h => h) (Or.inl ⟨by rfl, ?_⟩) (by assumption) ?_
    · (intro w9 hSw; (try dsimp only at hSw); go_simp; try with_reducible rfl)
    try simp only [Act.put, List.setIfInBounds_toArray, List.set_cons_zero, List.set_cons_succ]
    refine wpAnyH_take (i := 5) (oi := ⟨some 20, _, _, _, _, _⟩) (v := ?_) rfl (by kernel_rfl) (by kernel_rfl) (by kernel_rfl) (fun _ _ _ h => h) (Or.inl ⟨by rfl, ?_⟩) (by assumption) ?_
    rotate_left
    · (intro w9 hSw; (try dsimp only at hSw); go_simp; try with_reducible rfl)
    try simp only [Act.put, List.setIfInBounds_toArray, List.set_cons_zero, List.set_cons_succ]
    refine wpAnyH_take (i := 6) (oi := ⟨some 21, _, _, _, _, _⟩) (v := ?_) rfl (by kernel_rfl) (by kernel_rfl) (by kernel_rfl) (fun _ _ _ h => h) (Or.inl ⟨by rfl, ?_⟩) (by assumption) ?_
    rotate_left
    · (intro w9 hSw; (try dsimp only at hSw); go_simp; try with_reducible rfl)
    try simp only [Act.put, List.setIfInBounds_toArray, List.set_cons_zero, List.set_cons_succ]
    refine wpAnyH_take (i := 7) (oi := ⟨some 22, _, _, _, _, _⟩) (v := .int .i64 (M : Int)) rfl (by kernel_rfl) (by kernel_rfl) (by kernel_rfl) (fun _ _ _ h => h) (Or.inl ⟨by rfl, ?_⟩) (by assumption) ?_
    · (intro w9 hSw; (try dsimp only at hSw); go_simp; try with_reducible rfl)
    try simp only [Act.put, List.setIfInBounds_toArray, List.set_cons_zero, List.set_cons_succ]
    refine wpAnyH_take (i := 8) (oi := ⟨some 23, _, _, _, _, _⟩) (v := .int .i64 (n : Int)) rfl (by kernel_rfl) (by kernel_rfl) (by kernel_rfl) (fun _ _ _ h => h) (Or.inl ⟨by rfl, ?_⟩) (by assumption) ?_
    · (intro w9 hSw; (try dsimp only at hSw); go_simp; try with_reducible rfl)
    try simp only [Act.put, List.setIfInBounds_toArray, List.set_cons_zero, List.set_cons_succ]
    refine wpAnyH_take (i := 9) (oi := ⟨some 24, _, _, _, _, _⟩) (v := .slice A n c) rfl (by kernel_rfl) (by kernel_rfl) (by kernel_rfl) (fun _ _ _ h => h) (Or.inl ⟨by rfl, ?_⟩) (by assumption) ?_
    · (intro w9 hSw; (try dsimp only at hSw); go_simp; try with_reducible rfl)
    try simp only [Act.put, List.setIfInBounds_toArray, List.set_cons_zero, List.set_cons_succ]
    refine wpAnyH_take (i := 10) (oi := ⟨some 25, _, _, _, _, _⟩) (v := ?_) rfl (by kernel_rfl) (by kernel_rfl) (by kernel_rfl) (fun _ _ _ h => h) (Or.inl ⟨by rfl, ?_⟩) (by assumption) ?_
    rotate_left
    · (intro w9 hSw; (try dsimp only at hSw); go_simp; try with_reducible rfl)
    try simp only [Act.put, List.setIfInBounds_toArray, List.set_cons_zero, List.set_cons_succ]
    refine wpAnyH_take (i := 12) (oi := ⟨some 27, _, _, _, _, _⟩) (v := ?_) rfl (by kernel_rfl) (by kernel_rfl) (by kernel_rfl) (fun _ _ _ h => h) (Or.inl ⟨by rfl, ?_⟩) (by assumption) ?_
    rotate_left
    · (intro w9 hSw; (try dsimp only at hSw); go_simp; try with_reducible rfl)
    try simp only [Act.put, List.setIfInBounds_toArray, List.set_cons_zero, List.set_cons_succ]
    refine wpAnyH_ready (rs := [11, 13, 17]) (by kernel_rfl) (by simp) ?_
    refine AllReadyH.cons (o := ⟨some 26, _, _, _, _, _⟩) rfl (fun K9 hK9 => ?_) ?_
    · skip
      go_simp
      refine hK9.out _ _ ?_ (fun hHeld => ?_)
      · trivial
      clear hK9 K9
      try simp only [Act.put, List.setIfInBounds_toArray, List.set_cons_zero, List.set_cons_succ]
      refine wpAnyH_ready (rs := [13, 17]) (by kernel_rfl) (by simp) ?_
      refine AllReadyH.cons (o := ⟨some 28, _, _, _, _, _⟩) rfl (fun K9 hK9 => ?_) ?_
      · skip
        go_simp
        refine hK9.out _ _ ?_ (fun hHeld => ?_)
        · trivial
        clear hK9 K9
        try simp only [Act.put, List.setIfInBounds_toArray, List.set_cons_zero, List.set_cons_succ]
        refine wpAnyH_take (i := 14) (oi := ⟨some 29, _, _, _, _, _⟩) (v := .int .i64 (xl : Int)) rfl (by kernel_rfl) (by kernel_rfl) (by kernel_rfl) (fun _ _ _ h => h) (Or.inl ⟨by rfl, ?_⟩) (by assumption) ?_
        · (intro w9 hSw; (try dsimp only at hSw); go_simp; try with_reducible rfl)
        try simp only [Act.put, List.setIfInBounds_toArray, List.set_cons_zero, List.set_cons_succ]
        refine wpAnyH_take (i := 15) (oi := ⟨some 30, _, _, _, _, _⟩) (v := .int .i64 (a : Int)) rfl (by kernel_rfl) (by kernel_rfl) (by kernel_rfl) (fun _ _ _ h => h) (Or.inl ⟨by rfl, ?_⟩) (by assumption) ?_
        · (intro w9 hSw; (try dsimp only at hSw); go_simp; try with_reducible rfl)
        try simp only [Act.put, List.setIfInBounds_toArray, List.set_cons_zero, List.set_cons_succ]
        refine wpAnyH_take (i := 16) (oi := ⟨some 31, _, _, _, _, _⟩) (v := sv (xs.take a)) rfl (by kernel_rfl) (by kernel_rfl) (by kernel_rfl) (fun _ _ _ h => h) (Or.inl ⟨by rfl, ?_⟩) (by assumption) ?_
        · (intro w9 hSw; (try dsimp only at hSw); go_simp; try with_reducible rfl)
        try simp only [Act.put, List.setIfInBounds_toArray, List.set_cons_zero, List.set_cons_succ]
        refine wpAnyH_ready (rs := [17]) (by kernel_rfl) (by simp) ?_
        refine AllReadyH.cons (o := ⟨some 32, _, _, _, _, _⟩) rfl (fun K9 hK9 => ?_) AllReadyH.nil
        go_simp
        refine hK9.out _ _ ?_ (fun hHeld => ?_)
        · trivial
        clear hK9 K9
        try simp only [Act.put, List.setIfInBounds_toArray, List.set_cons_zero, List.set_cons_succ]
        refine wpAnyH_ready (rs := [18]) (by kernel_rfl) (by simp) ?_
        refine AllReadyH.cons (o := ⟨some 33, _, _, _, _, _⟩) rfl (fun K9 hK9 => ?_) AllReadyH.nil
        go_simp; go_at_call 7
        refine (HFW.out _ HB0.out).mono ?_
        rintro e wa ⟨X, e1, Y, e2, rfl, hLX, hLY, hba⟩
        have hK0 := HK0.out.below hba
        have hK1 := HK1.out.below hba
        have d1 := pcell1 hK0
        have f1 := hK0.frozen 1
        have d2 := pcell0 hK1
        have d3 := pcell1 hK1
        have f2 := hK1.frozen 0
        have f3 := hK1.frozen 1
        have hK0b := ((hK0.set_ 1 (sv (xs.take a))).far (p := ⟨w.heap.size + 1, 0, none⟩) (by simp) (.slice X nG e1)).far (p := ⟨w.heap.size + 1, 1, none⟩) (by simp) (.slice Y nF e2)
        have hK1b := ((hK1.far (p := ⟨w.heap.size, 1, none⟩) (by simp) (sv (xs.take a))).set_ 0 (.slice X nG e1)).set_ 1 (.slice Y nF e2)
        have hw2 : w.heap.size + 1 + 1 ≤ w1.heap.size := HLT.out
        have LX := Lib.hid (((((show LF w1.heap.size _ X CG from hLX).base hw2).set_ (b := w.heap.size) (o := 1) (v := sv (xs.take a)) (by omega)).set_ (b := w.heap.size + 1) (o := 0) (v := .slice X nG e1) (by omega)).set_ (b := w.heap.size + 1) (o := 1) (v := .slice Y nF e2) (by omega)).lr
        have LY := Lib.hid (((((show LF w1.heap.size _ Y CF from hLY).base hw2).set_ (b := w.heap.size) (o := 1) (v := sv (xs.take a)) (by omega)).set_ (b := w.heap.size + 1) (o := 0) (v := .slice X nG e1) (by omega)).set_ (b := w.heap.size + 1) (o := 1) (v := .slice Y nF e2) (by omega)).lr
        have BB := Lib.hid (bs (b := w.heap.size + 1) (o := 1) (bs (b := w.heap.size + 1) (o := 0) (bs (b := w.heap.size) (o := 1) (bt HB0.out hba) (Nat.le_refl _) (sv (xs.take a))) (by omega) (.slice X nG e1)) (by omega) (.slice Y nF e2))
        have KA := Lib.hid hK0b
        have KB := Lib.hid hK1b
        clear hK0b hK1b hLX hLY hba hK0 hK1
        refine hK9.out _ _ ?_ (fun hHeld => ?_)
        · trivial
        clear hK9 K9
        try simp only [Act.put, List.setIfInBounds_toArray, List.set_cons_zero, List.set_cons_succ]
        refine wpAnyH_take (i := 19) (oi := ⟨some 0, _, _, _, _, _⟩) (v := ?_) rfl (by kernel_rfl) (by kernel_rfl) (by kernel_rfl) (fun _ _ _ h => h) (Or.inl ⟨by rfl, ?_⟩) (by assumption) ?_
        rotate_left
        · (intro w9 hSw; (try dsimp only at hSw); go_simp; try with_reducible rfl)
        try simp only [Act.put, List.setIfInBounds_toArray, List.set_cons_zero]
        refine wpAnyH_take (i := 20) (oi := ⟨some 1, _, _, _, _, _⟩) (v := ?_) rfl (by kernel_rfl) (by kernel_rfl) (by kernel_rfl) (fun _ _ _ h => h) (Or.inl ⟨by rfl, ?_⟩) (by assumption) ?_
        rotate_left
        · (intro w9 hSw; (try dsimp only at hSw); go_simp; try with_reducible rfl)
        try simp only [Act.put, List.setIfInBounds_toArray, List.set_cons_zero, List.set_cons_succ]
        refine wpAnyH_take (i := 21) (oi := ⟨some 34, _, _, _, _, _⟩) (v := ?_) rfl (by kernel_rfl) (by kernel_rfl) (by kernel_rfl) (fun _ _ _ h => h) (Or.inl ⟨by rfl, ?_⟩) (by assumption) ?_
        rotate_left
        · (intro w9 hSw; (try dsimp only at hSw); go_simp; try with_reducible rfl)
        try simp only [Act.put, List.setIfInBounds_toArray, List.set_cons_zero, List.set_cons_succ]
        refine wpAnyH_ready (rs := [22]) (by kernel_rfl) (by simp) ?_
        refine AllReadyH.cons (o := ⟨none, _, _, _, _, _⟩) rfl (fun K9 hK9 => ?_) AllReadyH.nil
        go_simp
        refine hK9.out _ _ ?_ (fun hHeld => ?_)
        · trivial
        clear hK9 K9
        try simp only [Act.put]
        refine wpAnyH_ready (rs := [23]) (by kernel_rfl) (by simp) ?_
        refine AllReadyH.cons (o := ⟨none, _, _, _, _, _⟩) rfl (fun K9 hK9 => ?_) AllReadyH.nil
        go_simp
        refine hK9.out _ _ ?_ (fun hHeld => ?_)
        · trivial
        clear hK9 K9
        try simp only [Act.put]
        refine wpAnyH_done (by kernel_rfl) ?_ _
        go_wp2_with fail
        go_meet
        exact ⟨rfl, rfl, X, e1, Y, e2, KA, KB, LX, LY, BB⟩
      refine AllReadyH.cons (o := ⟨some 32, _, _, _, _, _⟩) rfl (fun K9 hK9 => ?_) AllReadyH.nil
      · skip
        go_simp
        refine hK9.out _ _ ?_ (fun hHeld => ?_)
        · trivial
        clear hK9 K9
        try simp only [Act.put, List.setIfInBounds_toArray, List.set_cons_zero, List.set_cons_succ]
        refine wpAnyH_ready (rs := [13, 18]) (by kernel_rfl) (by simp) ?_
        refine AllReadyH.cons (o := ⟨some 28, _, _, _, _, _⟩) rfl (fun K9 hK9 => ?_) ?_
        · skip
          go_simp
          refine hK9.out _ _ ?_ (fun hHeld => ?_)
          · trivial
          clear hK9 K9
          try simp only [Act.put, List.setIfInBounds_toArray, List.set_cons_zero, List.set_cons_succ]
          refine wpAnyH_take (i := 14) (oi := ⟨some 29, _, _, _, _, _⟩) (v := .int .i64 (xl : Int)) rfl (by kernel_rfl) (by kernel_rfl) (by kernel_rfl) (fun _ _ _ h => h) (Or.inl ⟨by rfl, ?_⟩) (by assumption) ?_
          · (intro w9 hSw; (try dsimp only at hSw); go_simp; try with_reducible rfl)
          try simp only [Act.put, List.setIfInBounds_toArray, List.set_cons_zero, List.set_cons_succ]
          refine wpAnyH_take (i := 15) (oi := ⟨some 30, _, _, _, _, _⟩) (v := .int .i64 (a : Int)) rfl (by kernel_rfl) (by kernel_rfl) (by kernel_rfl) (fun _ _ _ h => h) (Or.inl ⟨by rfl, ?_⟩) (by assumption) ?_
          · (intro w9 hSw; (try dsimp only at hSw); go_simp; try with_reducible rfl)
          try simp only [Act.put, List.setIfInBounds_toArray, List.set_cons_zero, List.set_cons_succ]
          refine wpAnyH_take (i := 16) (oi := ⟨some 31, _, _, _, _, _⟩) (v := sv (xs.take a)) rfl (by kernel_rfl) (by kernel_rfl) (by kernel_rfl) (fun _ _ _ h => h) (Or.inl ⟨by rfl, ?_⟩) (by assumption) ?_
          · (intro w9 hSw; (try dsimp only at hSw); go_simp; try with_reducible rfl)
          try simp only [Act.put, List.setIfInBounds_toArray, List.set_cons_zero, List.set_cons_succ]
          refine wpAnyH_ready (rs := [18]) (by kernel_rfl) (by simp) ?_
          refine AllReadyH.cons (o := ⟨some 33, _, _, _, _, _⟩) rfl (fun K9 hK9 => ?_) AllReadyH.nil
          go_simp; go_at_call 7
          refine (HFW.out _ HB0.out).mono ?_
          rintro e wa ⟨X, e1, Y, e2, rfl, hLX, hLY, hba⟩
          have hK0 := HK0.out.below hba
          have hK1 := HK1.out.below hba
          have d1 := pcell1 hK0
          have f1 := hK0.frozen 1
          have d2 := pcell0 hK1
          have d3 := pcell1 hK1
          have f2 := hK1.frozen 0
          have f3 := hK1.frozen 1
          have hK0b := ((hK0.set_ 1 (sv (xs.take a))).far (p := ⟨w.heap.size + 1, 0, none⟩) (by simp) (.slice X nG e1)).far (p := ⟨w.heap.size + 1, 1, none⟩) (by simp) (.slice Y nF e2)
          have hK1b := ((hK1.far (p := ⟨w.heap.size, 1, none⟩) (by simp) (sv (xs.take a))).set_ 0 (.slice X nG e1)).set_ 1 (.slice Y nF e2)
          have hw2 : w.heap.size + 1 + 1 ≤ w1.heap.size := HLT.out
          have LX := Lib.hid (((((show LF w1.heap.size _ X CG from hLX).base hw2).set_ (b := w.heap.size) (o := 1) (v := sv (xs.take a)) (by omega)).set_ (b := w.heap.size + 1) (o := 0) (v := .slice X nG e1) (by omega)).set_ (b := w.heap.size + 1) (o := 1) (v := .slice Y nF e2) (by omega)).lr
          have LY := Lib.hid (((((show LF w1.heap.size _ Y CF from hLY).base hw2).set_ (b := w.heap.size) (o := 1) (v := sv (xs.take a)) (by omega)).set_ (b := w.heap.size + 1) (o := 0) (v := .slice X nG e1) (by omega)).set_ (b := w.heap.size + 1) (o := 1) (v := .slice Y nF e2) (by omega)).lr
          have BB := Lib.hid (bs (b := w.heap.size + 1) (o := 1) (bs (b := w.heap.size + 1) (o := 0) (bs (b := w.heap.size) (o := 1) (bt HB0.out hba) (Nat.le_refl _) (sv (xs.take a))) (by omega) (.slice X nG e1)) (by omega) (.slice Y nF e2))
          have KA := Lib.hid hK0b
          have KB := Lib.hid hK1b
          clear hK0b hK1b hLX hLY hba hK0 hK1
          refine hK9.out _ _ ?_ (fun hHeld => ?_)
          · trivial
          clear hK9 K9
          try simp only [Act.put, List.setIfInBounds_toArray, List.set_cons_zero, List.set_cons_succ]
          refine wpAnyH_take (i := 19) (oi := ⟨some 0, _, _, _, _, _⟩) (v := ?_) rfl (by kernel_rfl) (by kernel_rfl) (by kernel_rfl) (fun _ _ _ h => h) (Or.inl ⟨by rfl, ?_⟩) (by assumption) ?_
          rotate_left
          · (intro w9 hSw; (try dsimp only at hSw); go_simp; try with_reducible rfl)
          try simp only [Act.put, List.setIfInBounds_toArray, List.set_cons_zero]
          refine wpAnyH_take (i := 20) (oi := ⟨some 1, _, _, _, _, _⟩) (v := ?_) rfl (by kernel_rfl) (by kernel_rfl) (by kernel_rfl) (fun _ _ _ h => h) (Or.inl ⟨by rfl, ?_⟩) (by assumption) ?_
          rotate_left
          · (intro w9 hSw; (try dsimp only at hSw); go_simp; try with_reducible rfl)
          try simp only [Act.put, List.setIfInBounds_toArray, List.set_cons_zero, List.set_cons_succ]
          refine wpAnyH_take (i := 21) (oi := ⟨some 34, _, _, _, _, _⟩) (v := ?_) rfl (by kernel_rfl) (by kernel_rfl) (by kernel_rfl) (fun _ _ _ h => h) (Or.inl ⟨by rfl, ?_⟩) (by assumption) ?_
          rotate_left
          · (intro w9 hSw; (try dsimp only at hSw); go_simp; try with_reducible rfl)
          try simp only [Act.put, List.setIfInBounds_toArray, List.set_cons_zero, List.set_cons_succ]
          refine wpAnyH_ready (rs := [22]) (by kernel_rfl) (by simp) ?_
          refine AllReadyH.cons (o := ⟨none, _, _, _, _, _⟩) rfl (fun K9 hK9 => ?_) AllReadyH.nil
          go_simp
          refine hK9.out _ _ ?_ (fun hHeld => ?_)
          · trivial
          clear hK9 K9
          try simp only [Act.put]
          refine wpAnyH_ready (rs := [23]) (by kernel_rfl) (by simp) ?_
          refine AllReadyH.cons (o := ⟨none, _, _, _, _, _⟩) rfl (fun K9 hK9 => ?_) AllReadyH.nil
          go_simp
          refine hK9.out _ _ ?_ (fun hHeld => ?_)
          · trivial
          clear hK9 K9
          try simp only [Act.put]
          refine wpAnyH_done (by kernel_rfl) ?_ _
          go_wp2_with fail
          go_meet
          exact ⟨rfl, rfl, X, e1, Y, e2, KA, KB, LX, LY, BB⟩
        refine AllReadyH.cons (o := ⟨some 33, _, _, _, _, _⟩) rfl (fun K9 hK9 => ?_) AllReadyH.nil
        · skip
          go_simp; go_at_call 7
          refine (HFW.out _ HB0.out).mono ?_
          rintro e wa ⟨X, e1, Y, e2, rfl, hLX, hLY, hba⟩
          have hK0 := HK0.out.below hba
          have hK1 := HK1.out.below hba
          have d1 := pcell1 hK0
          have f1 := hK0.frozen 1
          have d2 := pcell0 hK1
          have d3 := pcell1 hK1
          have f2 := hK1.frozen 0
          have f3 := hK1.frozen 1
          have hK0b := ((hK0.set_ 1 (sv (xs.take a))).far (p := ⟨w.heap.size + 1, 0, none⟩) (by simp) (.slice X nG e1)).far (p := ⟨w.heap.size + 1, 1, none⟩) (by simp) (.slice Y nF e2)
          have hK1b := ((hK1.far (p := ⟨w.heap.size, 1, none⟩) (by simp) (sv (xs.take a))).set_ 0 (.slice X nG e1)).set_ 1 (.slice Y nF e2)
          have hw2 : w.heap.size + 1 + 1 ≤ w1.heap.size := HLT.out
          have LX := Lib.hid (((((show LF w1.heap.size _ X CG from hLX).base hw2).set_ (b := w.heap.size) (o := 1) (v := sv (xs.take a)) (by omega)).set_ (b := w.heap.size + 1) (o := 0) (v := .slice X nG e1) (by omega)).set_ (b := w.heap.size + 1) (o := 1) (v := .slice Y nF e2) (by omega)).lr
          have LY := Lib.hid (((((show LF w1.heap.size _ Y CF from hLY).base hw2).set_ (b := w.heap.size) (o := 1) (v := sv (xs.take a)) (by omega)).set_ (b := w.heap.size + 1) (o := 0) (v := .slice X nG e1) (by omega)).set_ (b := w.heap.size + 1) (o := 1) (v := .slice Y nF e2) (by omega)).lr
          have BB := Lib.hid (bs (b := w.heap.size + 1) (o := 1) (bs (b := w.heap.size + 1) (o := 0) (bs (b := w.heap.size) (o := 1) (bt HB0.out hba) (Nat.le_refl _) (sv (xs.take a))) (by omega) (.slice X nG e1)) (by omega) (.slice Y nF e2))
          have KA := Lib.hid hK0b
          have KB := Lib.hid hK1b
          clear hK0b hK1b hLX hLY hba hK0 hK1
          refine hK9.out _ _ ?_ (fun hHeld => ?_)
          · trivial
          clear hK9 K9
          try simp only [Act.put, List.setIfInBounds_toArray, List.set_cons_zero, List.set_cons_succ]
          refine wpAnyH_take (i := 19) (oi := ⟨some 0, _, _, _, _, _⟩) (v := ?_) rfl (by kernel_rfl) (by kernel_rfl) (by kernel_rfl) (fun _ _ _ h => h) (Or.inl ⟨by rfl, ?_⟩) (by assumption) ?_
          rotate_left
          · (intro w9 hSw; (try dsimp only at hSw); go_simp; try with_reducible rfl)
          try simp only [Act.put, List.setIfInBounds_toArray, List.set_cons_zero]
          refine wpAnyH_take (i := 20) (oi := ⟨some 1, _, _, _, _, _⟩) (v := ?_) rfl (by kernel_rfl) (by kernel_rfl) (by kernel_rfl) (fun _ _ _ h => h) (Or.inl ⟨by rfl, ?_⟩) (by assumption) ?_
          rotate_left
          · (intro w9 hSw; (try dsimp only at hSw); go_simp; try with_reducible rfl)
          try simp only [Act.put, List.setIfInBounds_toArray, List.set_cons_zero, List.set_cons_succ]
          refine wpAnyH_ready (rs := [13]) (by kernel_rfl) (by simp) ?_
          refine AllReadyH.cons (o := ⟨some 28, _, _, _, _, _⟩) rfl (fun K9 hK9 => ?_) AllReadyH.nil
          go_simp
          refine hK9.out _ _ ?_ (fun hHeld => ?_)
          · trivial
          clear hK9 K9
          try simp only [Act.put, List.setIfInBounds_toArray, List.set_cons_zero, List.set_cons_succ]
          refine wpAnyH_take (i := 14) (oi := ⟨some 29, _, _, _, _, _⟩) (v := .int .i64 (xl : Int)) rfl (by kernel_rfl) (by kernel_rfl) (by kernel_rfl) (fun _ _ _ h => h) (Or.inl ⟨by rfl, ?_⟩) (by assumption) ?_
          · (intro w9 hSw; (try dsimp only at hSw); go_simp; try with_reducible rfl)
          try simp only [Act.put, List.setIfInBounds_toArray, List.set_cons_zero, List.set_cons_succ]
          refine wpAnyH_take (i := 15) (oi := ⟨some 30, _, _, _, _, _⟩) (v := .int .i64 (a : Int)) rfl (by kernel_rfl) (by kernel_rfl) (by kernel_rfl) (fun _ _ _ h => h) (Or.inl ⟨by rfl, ?_⟩) (by assumption) ?_
          · (intro w9 hSw; (try dsimp only at hSw); go_simp; try with_reducible rfl)
          try simp only [Act.put, List.setIfInBounds_toArray, List.set_cons_zero, List.set_cons_succ]
          refine wpAnyH_take (i := 16) (oi := ⟨some 31, _, _, _, _, _⟩) (v := sv (xs.take a)) rfl (by kernel_rfl) (by kernel_rfl) (by kernel_rfl) (fun _ _ _ h => h) (Or.inl ⟨by rfl, ?_⟩) (by assumption) ?_
          · (intro w9 hSw; (try dsimp only at hSw); go_simp; try with_reducible rfl)
          try simp only [Act.put, List.setIfInBounds_toArray, List.set_cons_zero, List.set_cons_succ]
          refine wpAnyH_take (i := 21) (oi := ⟨some 34, _, _, _, _, _⟩) (v := ?_) rfl (by kernel_rfl) (by kernel_rfl) (by kernel_rfl) (fun _ _ _ h => h) (Or.inl ⟨by rfl, ?_⟩) (by assumption) ?_
          rotate_left
          · (intro w9 hSw; (try dsimp only at hSw); go_simp; try with_reducible rfl)
          try simp only [Act.put, List.setIfInBounds_toArray, List.set_cons_zero, List.set_cons_succ]
          refine wpAnyH_ready (rs := [22]) (by kernel_rfl) (by simp) ?_
          refine AllReadyH.cons (o := ⟨none, _, _, _, _, _⟩) rfl (fun K9 hK9 => ?_) AllReadyH.nil
          go_simp
          refine hK9.out _ _ ?_ (fun hHeld => ?_)
          · trivial
          clear hK9 K9
          try simp only [Act.put]
          refine wpAnyH_ready (rs := [23]) (by kernel_rfl) (by simp) ?_
          refine AllReadyH.cons (o := ⟨none, _, _, _, _, _⟩) rfl (fun K9 hK9 => ?_) AllReadyH.nil
          go_simp
          refine hK9.out _ _ ?_ (fun hHeld => ?_)
          · trivial
          clear hK9 K9
          try simp only [Act.put]
          refine wpAnyH_done (by kernel_rfl) ?_ _
          go_wp2_with fail
          go_meet
          exact ⟨rfl, rfl, X, e1, Y, e2, KA, KB, LX, LY, BB⟩
    refine AllReadyH.cons (o := ⟨some 28, _, _, _, _, _⟩) rfl (fun K9 hK9 => ?_) ?_
    · skip
      go_simp
      refine hK9.out _ _ ?_ (fun hHeld => ?_)
      · trivial
      clear hK9 K9
      try simp only [Act.put, List.setIfInBounds_toArray, List.set_cons_zero, List.set_cons_succ]
      refine wpAnyH_take (i := 14) (oi := ⟨some 29, _, _, _, _, _⟩) (v := .int .i64 (xl : Int)) rfl (by kernel_rfl) (by kernel_rfl) (by kernel_rfl) (fun _ _ _ h => h) (Or.inl ⟨by rfl, ?_⟩) (by assumption) ?_
      · (intro w9 hSw; (try dsimp only at hSw); go_simp; try with_reducible rfl)
      try simp only [Act.put, List.setIfInBounds_toArray, List.set_cons_zero, List.set_cons_succ]
      refine wpAnyH_take (i := 15) (oi := ⟨some 30, _, _, _, _, _⟩) (v := .int .i64 (a : Int)) rfl (by kernel_rfl) (by kernel_rfl) (by kernel_rfl) (fun _ _ _ h => h) (Or.inl ⟨by rfl, ?_⟩) (by assumption) ?_
      · (intro w9 hSw; (try dsimp only at hSw); go_simp; try with_reducible rfl)
      try simp only [Act.put, List.setIfInBounds_toArray, List.set_cons_zero, List.set_cons_succ]
      refine wpAnyH_ready (rs := [11, 17]) (by kernel_rfl) (by simp) ?_
      refine AllReadyH.cons (o := ⟨some 26, _, _, _, _, _⟩) rfl (fun K9 hK9 => ?_) ?_
      · skip
        go_simp
        refine hK9.out _ _ ?_ (fun hHeld => ?_)
        · trivial
        clear hK9 K9
        try simp only [Act.put, List.setIfInBounds_toArray, List.set_cons_zero, List.set_cons_succ]
        refine wpAnyH_take (i := 16) (oi := ⟨some 31, _, _, _, _, _⟩) (v := sv (xs.take a)) rfl (by kernel_rfl) (by kernel_rfl) (by kernel_rfl) (fun _ _ _ h => h) (Or.inl ⟨by rfl, ?_⟩) (by assumption) ?_
        · (intro w9 hSw; (try dsimp only at hSw); go_simp; try with_reducible rfl)
        try simp only [Act.put, List.setIfInBounds_toArray, List.set_cons_zero, List.set_cons_succ]
        refine wpAnyH_ready (rs := [17]) (by kernel_rfl) (by simp) ?_
        refine AllReadyH.cons (o := ⟨some 32, _, _, _, _, _⟩) rfl (fun K9 hK9 => ?_) AllReadyH.nil
        go_simp
        refine hK9.out _ _ ?_ (fun hHeld => ?_)
        · trivial
        clear hK9 K9
        try simp only [Act.put, List.setIfInBounds_toArray, List.set_cons_zero, List.set_cons_succ]
        refine wpAnyH_ready (rs := [18]) (by kernel_rfl) (by simp) ?_
        refine AllReadyH.cons (o := ⟨some 33, _, _, _, _, _⟩) rfl (fun K9 hK9 => ?_) AllReadyH.nil
        go_simp; go_at_call 7
        refine (HFW.out _ HB0.out).mono ?_
        rintro e wa ⟨X, e1, Y, e2, rfl, hLX, hLY, hba⟩
        have hK0 := HK0.out.below hba
        have hK1 := HK1.out.below hba
        have d1 := pcell1 hK0
        have f1 := hK0.frozen 1
        have d2 := pcell0 hK1
        have d3 := pcell1 hK1
        have f2 := hK1.frozen 0
        have f3 := hK1.frozen 1
        have hK0b := ((hK0.set_ 1 (sv (xs.take a))).far (p := ⟨w.heap.size + 1, 0, none⟩) (by simp) (.slice X nG e1)).far (p := ⟨w.heap.size + 1, 1, none⟩) (by simp) (.slice Y nF e2)
        have hK1b := ((hK1.far (p := ⟨w.heap.size, 1, none⟩) (by simp) (sv (xs.take a))).set_ 0 (.slice X nG e1)).set_ 1 (.slice Y nF e2)
        have hw2 : w.heap.size + 1 + 1 ≤ w1.heap.size := HLT.out
        have LX := Lib.hid (((((show LF w1.heap.size _ X CG from hLX).base hw2).set_ (b := w.heap.size) (o := 1) (v := sv (xs.take a)) (by omega)).set_ (b := w.heap.size + 1) (o := 0) (v := .slice X nG e1) (by omega)).set_ (b := w.heap.size + 1) (o := 1) (v := .slice Y nF e2) (by omega)).lr
        have LY := Lib.hid (((((show LF w1.heap.size _ Y CF from hLY).base hw2).set_ (b := w.heap.size) (o := 1) (v := sv (xs.take a)) (by omega)).set_ (b := w.heap.size + 1) (o := 0) (v := .slice X nG e1) (by omega)).set_ (b := w.heap.size + 1) (o := 1) (v := .slice Y nF e2) (by omega)).lr
        have BB := Lib.hid (bs (b := w.heap.size + 1) (o := 1) (bs (b := w.heap.size + 1) (o := 0) (bs (b := w.heap.size) (o := 1) (bt HB0.out hba) (Nat.le_refl _) (sv (xs.take a))) (by omega) (.slice X nG e1)) (by omega) (.slice Y nF e2))
        have KA := Lib.hid hK0b
        have KB := Lib.hid hK1b
        clear hK0b hK1b hLX hLY hba hK0 hK1
        refine hK9.out _ _ ?_ (fun hHeld => ?_)
        · trivial
        clear hK9 K9
        try simp only [Act.put, List.setIfInBounds_toArray, List.set_cons_zero, List.set_cons_succ]
        refine wpAnyH_take (i := 19) (oi := ⟨some 0, _, _, _, _, _⟩) (v := ?_) rfl (by kernel_rfl) (by kernel_rfl) (by kernel_rfl) (fun _ _ _ h => h) (Or.inl ⟨by rfl, ?_⟩) (by assumption) ?_
        rotate_left
        · (intro w9 hSw; (try dsimp only at hSw); go_simp; try with_reducible rfl)
        try simp only [Act.put, List.setIfInBounds_toArray, List.set_cons_zero]
        refine wpAnyH_take (i := 20) (oi := ⟨some 1, _, _, _, _, _⟩) (v := ?_) rfl (by kernel_rfl) (by kernel_rfl) (by kernel_rfl) (fun _ _ _ h => h) (Or.inl ⟨by rfl, ?_⟩) (by assumption) ?_
        rotate_left
        · (intro w9 hSw; (try dsimp only at hSw); go_simp; try with_reducible rfl)
        try simp only [Act.put, List.setIfInBounds_toArray, List.set_cons_zero, List.set_cons_succ]
        refine wpAnyH_take (i := 21) (oi := ⟨some 34, _, _, _, _, _⟩) (v := ?_) rfl (by kernel_rfl) (by kernel_rfl) (by kernel_rfl) (fun _ _ _ h => h) (Or.inl ⟨by rfl, ?_⟩) (by assumption) ?_
        rotate_left
        · (intro w9 hSw; (try dsimp only at hSw); go_simp; try with_reducible rfl)
        try simp only [Act.put, List.setIfInBounds_toArray, List.set_cons_zero, List.set_cons_succ]
        refine wpAnyH_ready (rs := [22]) (by kernel_rfl) (by simp) ?_
        refine AllReadyH.cons (o := ⟨none, _, _, _, _, _⟩) rfl (fun K9 hK9 => ?_) AllReadyH.nil
        go_simp
        refine hK9.out _ _ ?_ (fun hHeld => ?_)
        · trivial
        clear hK9 K9
        try simp only [Act.put]
        refine wpAnyH_ready (rs := [23]) (by kernel_rfl) (by simp) ?_
        refine AllReadyH.cons (o := ⟨none, _, _, _, _, _⟩) rfl (fun K9 hK9 => ?_) AllReadyH.nil
        go_simp
        refine hK9.out _ _ ?_ (fun hHeld => ?_)
        · trivial
        clear hK9 K9
        try simp only [Act.put]
        refine wpAnyH_done (by kernel_rfl) ?_ _
        go_wp2_with fail
        go_meet
        exact ⟨rfl, rfl, X, e1, Y, e2, KA, KB, LX, LY, BB⟩
      refine AllReadyH.cons (o := ⟨some 32, _, _, _, _, _⟩) rfl (fun K9 hK9 => ?_) AllReadyH.nil
      · skip
        go_simp
        refine hK9.out _ _ ?_ (fun hHeld => ?_)
        · trivial
        clear hK9 K9
        try simp only [Act.put, List.setIfInBounds_toArray, List.set_cons_zero, List.set_cons_succ]
        refine wpAnyH_ready (rs := [11, 18]) (by kernel_rfl) (by simp) ?_
        refine AllReadyH.cons (o := ⟨some 26, _, _, _, _, _⟩) rfl (fun K9 hK9 => ?_) ?_
        · skip
          go_simp
          refine hK9.out _ _ ?_ (fun hHeld => ?_)
          · trivial
          clear hK9 K9
          try simp only [Act.put, List.setIfInBounds_toArray, List.set_cons_zero, List.set_cons_succ]
          refine wpAnyH_take (i := 16) (oi := ⟨some 31, _, _, _, _, _⟩) (v := sv (xs.take a)) rfl (by kernel_rfl) (by kernel_rfl) (by kernel_rfl) (fun _ _ _ h => h) (Or.inl ⟨by rfl, ?_⟩) (by assumption) ?_
          · (intro w9 hSw; (try dsimp only at hSw); go_simp; try with_reducible rfl)
          try simp only [Act.put, List.setIfInBounds_toArray, List.set_cons_zero, List.set_cons_succ]
          refine wpAnyH_ready (rs := [18]) (by kernel_rfl) (by simp) ?_
          refine AllReadyH.cons (o := ⟨some 33, _, _, _, _, _⟩) rfl (fun K9 hK9 => ?_) AllReadyH.nil
          go_simp; go_at_call 7
          refine (HFW.out _ HB0.out).mono ?_
          rintro e wa ⟨X, e1, Y, e2, rfl, hLX, hLY, hba⟩
          have hK0 := HK0.out.below hba
          have hK1 := HK1.out.below hba
          have d1 := pcell1 hK0
          have f1 := hK0.frozen 1
          have d2 := pcell0 hK1
          have d3 := pcell1 hK1
          have f2 := hK1.frozen 0
          have f3 := hK1.frozen 1
          have hK0b := ((hK0.set_ 1 (sv (xs.take a))).far (p := ⟨w.heap.size + 1, 0, none⟩) (by simp) (.slice X nG e1)).far (p := ⟨w.heap.size + 1, 1, none⟩) (by simp) (.slice Y nF e2)
          have hK1b := ((hK1.far (p := ⟨w.heap.size, 1, none⟩) (by simp) (sv (xs.take a))).set_ 0 (.slice X nG e1)).set_ 1 (.slice Y nF e2)
          have hw2 : w.heap.size + 1 + 1 ≤ w1.heap.size := HLT.out
          have LX := Lib.hid (((((show LF w1.heap.size _ X CG from hLX).base hw2).set_ (b := w.heap.size) (o := 1) (v := sv (xs.take a)) (by omega)).set_ (b := w.heap.size + 1) (o := 0) (v := .slice X nG e1) (by omega)).set_ (b := w.heap.size + 1) (o := 1) (v := .slice Y nF e2) (by omega)).lr
          have LY := Lib.hid (((((show LF w1.heap.size _ Y CF from hLY).base hw2).set_ (b := w.heap.size) (o := 1) (v := sv (xs.take a)) (by omega)).set_ (b := w.heap.size + 1) (o := 0) (v := .slice X nG e1) (by omega)).set_ (b := w.heap.size + 1) (o := 1) (v := .slice Y nF e2) (by omega)).lr
          have BB := Lib.hid (bs (b := w.heap.size + 1) (o := 1) (bs (b := w.heap.size + 1) (o := 0) (bs (b := w.heap.size) (o := 1) (bt HB0.out hba) (Nat.le_refl _) (sv (xs.take a))) (by omega) (.slice X nG e1)) (by omega) (.slice Y nF e2))
          have KA := Lib.hid hK0b
          have KB := Lib.hid hK1b
          clear hK0b hK1b hLX hLY hba hK0 hK1
          refine hK9.out _ _ ?_ (fun hHeld => ?_)
          · trivial
          clear hK9 K9
          try simp only [Act.put, List.setIfInBounds_toArray, List.set_cons_zero, List.set_cons_succ]
          refine wpAnyH_take (i := 19) (oi := ⟨some 0, _, _, _, _, _⟩) (v := ?_) rfl (by kernel_rfl) (by kernel_rfl) (by kernel_rfl) (fun _ _ _ h => h) (Or.inl ⟨by rfl, ?_⟩) (by assumption) ?_
          rotate_left
          · (intro w9 hSw; (try dsimp only at hSw); go_simp; try with_reducible rfl)
          try simp only [Act.put, List.setIfInBounds_toArray, List.set_cons_zero]
          refine wpAnyH_take (i := 20) (oi := ⟨some 1, _, _, _, _, _⟩) (v := ?_) rfl (by kernel_rfl) (by kernel_rfl) (by kernel_rfl) (fun _ _ _ h => h) (Or.inl ⟨by rfl, ?_⟩) (by assumption) ?_
          rotate_left
          · (intro w9 hSw; (try dsimp only at hSw); go_simp; try with_reducible rfl)
          try simp only [Act.put, List.setIfInBounds_toArray, List.set_cons_zero, List.set_cons_succ]
          refine wpAnyH_take (i := 21) (oi := ⟨some 34, _, _, _, _, _⟩) (v := ?_) rfl (by kernel_rfl) (by kernel_rfl) (by kernel_rfl) (fun _ _ _ h => h) (Or.inl ⟨by rfl, ?_⟩) (by assumption) ?_
          rotate_left
          · (intro w9 hSw; (try dsimp only at hSw); go_simp; try with_reducible rfl)
          try simp only [Act.put, List.setIfInBounds_toArray, List.set_cons_zero, List.set_cons_succ]
          refine wpAnyH_ready (rs := [22]) (by kernel_rfl) (by simp) ?_
          refine AllReadyH.cons (o := ⟨none, _, _, _, _, _⟩) rfl (fun K9 hK9 => ?_) AllReadyH.nil
          go_simp
          refine hK9.out _ _ ?_ (fun hHeld => ?_)
          · trivial
          clear hK9 K9
          try simp only [Act.put]
          refine wpAnyH_ready (rs := [23]) (by kernel_rfl) (by simp) ?_
          refine AllReadyH.cons (o := ⟨none, _, _, _, _, _⟩) rfl (fun K9 hK9 => ?_) AllReadyH.nil
          go_simp
          refine hK9.out _ _ ?_ (fun hHeld => ?_)
          · trivial
          clear hK9 K9
          try simp only [Act.put]
          refine wpAnyH_done (by kernel_rfl) ?_ _
          go_wp2_with fail
          go_meet
          exact ⟨rfl, rfl, X, e1, Y, e2, KA, KB, LX, LY, BB⟩
        refine AllReadyH.cons (o := ⟨some 33, _, _, _, _, _⟩) rfl (fun K9 hK9 => ?_) AllReadyH.nil
        · skip
          go_simp; go_at_call 7
          refine (HFW.out _ HB0.out).mono ?_
          rintro e wa ⟨X, e1, Y, e2, rfl, hLX, hLY, hba⟩
          have hK0 := HK0.out.below hba
          have hK1 := HK1.out.below hba
          have d1 := pcell1 hK0
          have f1 := hK0.frozen 1
          have d2 := pcell0 hK1
          have d3 := pcell1 hK1
          have f2 := hK1.frozen 0
          have f3 := hK1.frozen 1
          have hK0b := ((hK0.set_ 1 (sv (xs.take a))).far (p := ⟨w.heap.size + 1, 0, none⟩) (by simp) (.slice X nG e1)).far (p := ⟨w.heap.size + 1, 1, none⟩) (by simp) (.slice Y nF e2)
          have hK1b := ((hK1.far (p := ⟨w.heap.size, 1, none⟩) (by simp) (sv (xs.take a))).set_ 0 (.slice X nG e1)).set_ 1 (.slice Y nF e2)
          have hw2 : w.heap.size + 1 + 1 ≤ w1.heap.size := HLT.out
          have LX := Lib.hid (((((show LF w1.heap.size _ X CG from hLX).base hw2).set_ (b := w.heap.size) (o := 1) (v := sv (xs.take a)) (by omega)).set_ (b := w.heap.size + 1) (o := 0) (v := .slice X nG e1) (by omega)).set_ (b := w.heap.size + 1) (o := 1) (v := .slice Y nF e2) (by omega)).lr
          have LY := Lib.hid (((((show LF w1.heap.size _ Y CF from hLY).base hw2).set_ (b := w.heap.size) (o := 1) (v := sv (xs.take a)) (by omega)).set_ (b := w.heap.size + 1) (o := 0) (v := .slice X nG e1) (by omega)).set_ (b := w.heap.size + 1) (o := 1) (v := .slice Y nF e2) (by omega)).lr
          have BB := Lib.hid (bs (b := w.heap.size + 1) (o := 1) (bs (b := w.heap.size + 1) (o := 0) (bs (b := w.heap.size) (o := 1) (bt HB0.out hba) (Nat.le_refl _) (sv (xs.take a))) (by omega) (.slice X nG e1)) (by omega) (.slice Y nF e2))
          have KA := Lib.hid hK0b
          have KB := Lib.hid hK1b
          clear hK0b hK1b hLX hLY hba hK0 hK1
          refine hK9.out _ _ ?_ (fun hHeld => ?_)
          · trivial
          clear hK9 K9
          try simp only [Act.put, List.setIfInBounds_toArray, List.set_cons_zero, List.set_cons_succ]
          refine wpAnyH_take (i := 19) (oi := ⟨some 0, _, _, _, _, _⟩) (v := ?_) rfl (by kernel_rfl) (by kernel_rfl) (by kernel_rfl) (fun _ _ _ h => h) (Or.inl ⟨by rfl, ?_⟩) (by assumption) ?_
          rotate_left
          · (intro w9 hSw; (try dsimp only at hSw); go_simp; try with_reducible rfl)
          try simp only [Act.put, List.setIfInBounds_toArray, List.set_cons_zero]
          refine wpAnyH_take (i := 20) (oi := ⟨some 1, _, _, _, _, _⟩) (v := ?_) rfl (by kernel_rfl) (by kernel_rfl) (by kernel_rfl) (fun _ _ _ h => h) (Or.inl ⟨by rfl, ?_⟩) (by assumption) ?_
          rotate_left
          · (intro w9 hSw; (try dsimp only at hSw); go_simp; try with_reducible rfl)
          try simp only [Act.put, List.setIfInBounds_toArray, List.set_cons_zero, List.set_cons_succ]
          refine wpAnyH_ready (rs := [11]) (by kernel_rfl) (by simp) ?_
          refine AllReadyH.cons (o := ⟨some 26, _, _, _, _, _⟩) rfl (fun K9 hK9 => ?_) AllReadyH.nil
          go_simp
          refine hK9.out _ _ ?_ (fun hHeld => ?_)
          · trivial
          clear hK9 K9
          try simp only [Act.put, List.setIfInBounds_toArray, List.set_cons_zero, List.set_cons_succ]
          refine wpAnyH_take (i := 16) (oi := ⟨some 31, _, _, _, _, _⟩) (v := sv (xs.take a)) rfl (by kernel_rfl) (by kernel_rfl) (by kernel_rfl) (fun _ _ _ h => h) (Or.inl ⟨by rfl, ?_⟩) (by assumption) ?_
          · (intro w9 hSw; (try dsimp only at hSw); go_simp; try with_reducible rfl)
          try simp only [Act.put, List.setIfInBounds_toArray, List.set_cons_zero, List.set_cons_succ]
          refine wpAnyH_take (i := 21) (oi := ⟨some 34, _, _, _, _, _⟩) (v := ?_) rfl (by kernel_rfl) (by kernel_rfl) (by kernel_rfl) (fun _ _ _ h => h) (Or.inl ⟨by rfl, ?_⟩) (by assumption) ?_
          rotate_left
          · (intro w9 hSw; (try dsimp only at hSw); go_simp; try with_reducible rfl)
          try simp only [Act.put, List.setIfInBounds_toArray, List.set_cons_zero, List.set_cons_succ]
          refine wpAnyH_ready (rs := [22]) (by kernel_rfl) (by simp) ?_
          refine AllReadyH.cons (o := ⟨none, _, _, _, _, _⟩) rfl (fun K9 hK9 => ?_) AllReadyH.nil
          go_simp
          refine hK9.out _ _ ?_ (fun hHeld => ?_)
          · trivial
          clear hK9 K9
          try simp only [Act.put]
          refine wpAnyH_ready (rs := [23]) (by kernel_rfl) (by simp) ?_
          refine AllReadyH.cons (o := ⟨none, _, _, _, _, _⟩) rfl (fun K9 hK9 => ?_) AllReadyH.nil
          go_simp
          refine hK9.out _ _ ?_ (fun hHeld => ?_)
          · trivial
          clear hK9 K9
          try simp only [Act.put]
          refine wpAnyH_done (by kernel_rfl) ?_ _
          go_wp2_with fail
          go_meet
          exact ⟨rfl, rfl, X, e1, Y, e2, KA, KB, LX, LY, BB⟩
    refine AllReadyH.cons (o := ⟨some 32, _, _, _, _, _⟩) rfl (fun K9 hK9 => ?_) AllReadyH.nil
    · skip
      go_simp
      refine hK9.out _ _ ?_ (fun hHeld => ?_)
      · trivial
      clear hK9 K9
      try simp only [Act.put, List.setIfInBounds_toArray, List.set_cons_zero, List.set_cons_succ]
      refine wpAnyH_ready (rs := [11, 13, 18]) (by kernel_rfl) (by simp) ?_
      refine AllReadyH.cons (o := ⟨some 26, _, _, _, _, _⟩) rfl (fun K9 hK9 => ?_) ?_
      · skip
        go_simp
        refine hK9.out _ _ ?_ (fun hHeld => ?_)
        · trivial
        clear hK9 K9
        try simp only [Act.put, List.setIfInBounds_toArray, List.set_cons_zero, List.set_cons_succ]
        refine wpAnyH_ready (rs := [13, 18]) (by kernel_rfl) (by simp) ?_
        refine AllReadyH.cons (o := ⟨some 28, _, _, _, _, _⟩) rfl (fun K9 hK9 => ?_) ?_
        · skip
          go_simp
          refine hK9.out _ _ ?_ (fun hHeld => ?_)
          · trivial
          clear hK9 K9
          try simp only [Act.put, List.setIfInBounds_toArray, List.set_cons_zero, List.set_cons_succ]
          refine wpAnyH_take (i := 14) (oi := ⟨some 29, _, _, _, _, _⟩) (v := .int .i64 (xl : Int)) rfl (by kernel_rfl) (by kernel_rfl) (by kernel_rfl) (fun _ _ _ h => h) (Or.inl ⟨by rfl, ?_⟩) (by assumption) ?_
          · (intro w9 hSw; (try dsimp only at hSw); go_simp; try with_reducible rfl)
          try simp only [Act.put, List.setIfInBounds_toArray, List.set_cons_zero, List.set_cons_succ]
          refine wpAnyH_take (i := 15) (oi := ⟨some 30, _, _, _, _, _⟩) (v := .int .i64 (a : Int)) rfl (by kernel_rfl) (by kernel_rfl) (by kernel_rfl) (fun _ _ _ h => h) (Or.inl ⟨by rfl, ?_⟩) (by assumption) ?_
          · (intro w9 hSw; (try dsimp only at hSw); go_simp; try with_reducible rfl)
          try simp only [Act.put, List.setIfInBounds_toArray, List.set_cons_zero, List.set_cons_succ]
          refine wpAnyH_take (i := 16) (oi := ⟨some 31, _, _, _, _, _⟩) (v := sv (xs.take a)) rfl (by kernel_rfl) (by kernel_rfl) (by kernel_rfl) (fun _ _ _ h => h) (Or.inl ⟨by rfl, ?_⟩) (by assumption) ?_
          · (intro w9 hSw; (try dsimp only at hSw); go_simp; try with_reducible rfl)
          try simp only [Act.put, List.setIfInBounds_toArray, List.set_cons_zero, List.set_cons_succ]
          refine wpAnyH_ready (rs := [18]) (by kernel_rfl) (by simp) ?_
          refine AllReadyH.cons (o := ⟨some 33, _, _, _, _, _⟩) rfl (fun K9 hK9 => ?_) AllReadyH.nil
          go_simp; go_at_call 7
          refine (HFW.out _ HB0.out).mono ?_
          rintro e wa ⟨X, e1, Y, e2, rfl, hLX, hLY, hba⟩
          have hK0 := HK0.out.below hba
          have hK1 := HK1.out.below hba
          have d1 := pcell1 hK0
          have f1 := hK0.frozen 1
          have d2 := pcell0 hK1
          have d3 := pcell1 hK1
          have f2 := hK1.frozen 0
          have f3 := hK1.frozen 1
          have hK0b := ((hK0.set_ 1 (sv (xs.take a))).far (p := ⟨w.heap.size + 1, 0, none⟩) (by simp) (.slice X nG e1)).far (p := ⟨w.heap.size + 1, 1, none⟩) (by simp) (.slice Y nF e2)
          have hK1b := ((hK1.far (p := ⟨w.heap.size, 1, none⟩) (by simp) (sv (xs.take a))).set_ 0 (.slice X nG e1)).set_ 1 (.slice Y nF e2)
          have hw2 : w.heap.size + 1 + 1 ≤ w1.heap.size := HLT.out
          have LX := Lib.hid (((((show LF w1.heap.size _ X CG from hLX).base hw2).set_ (b := w.heap.size) (o := 1) (v := sv (xs.take a)) (by omega)).set_ (b := w.heap.size + 1) (o := 0) (v := .slice X nG e1) (by omega)).set_ (b := w.heap.size + 1) (o := 1) (v := .slice Y nF e2) (by omega)).lr
          have LY := Lib.hid (((((show LF w1.heap.size _ Y CF from hLY).base hw2).set_ (b := w.heap.size) (o := 1) (v := sv (xs.take a)) (by omega)).set_ (b := w.heap.size + 1) (o := 0) (v := .slice X nG e1) (by omega)).set_ (b := w.heap.size + 1) (o := 1) (v := .slice Y nF e2) (by omega)).lr
          have BB := Lib.hid (bs (b := w.heap.size + 1) (o := 1) (bs (b := w.heap.size + 1) (o := 0) (bs (b := w.heap.size) (o := 1) (bt HB0.out hba) (Nat.le_refl _) (sv (xs.take a))) (by omega) (.slice X nG e1)) (by omega) (.slice Y nF e2))
          have KA := Lib.hid hK0b
          have KB := Lib.hid hK1b
          clear hK0b hK1b hLX hLY hba hK0 hK1
          refine hK9.out _ _ ?_ (fun hHeld => ?_)
          · trivial
          clear hK9 K9
          try simp only [Act.put, List.setIfInBounds_toArray, List.set_cons_zero, List.set_cons_succ]
          refine wpAnyH_take (i := 19) (oi := ⟨some 0, _, _, _, _, _⟩) (v := ?_) rfl (by kernel_rfl) (by kernel_rfl) (by kernel_rfl) (fun _ _ _ h => h) (Or.inl ⟨by rfl, ?_⟩) (by assumption) ?_
          rotate_left
          · (intro w9 hSw; (try dsimp only at hSw); go_simp; try with_reducible rfl)
          try simp only [Act.put, List.setIfInBounds_toArray, List.set_cons_zero]
          refine wpAnyH_take (i := 20) (oi := ⟨some 1, _, _, _, _, _⟩) (v := ?_) rfl (by kernel_rfl) (by kernel_rfl) (by kernel_rfl) (fun _ _ _ h => h) (Or.inl ⟨by rfl, ?_⟩) (by assumption) ?_
          rotate_left
          · (intro w9 hSw; (try dsimp only at hSw); go_simp; try with_reducible rfl)
          try simp only [Act.put, List.setIfInBounds_toArray, List.set_cons_zero, List.set_cons_succ]
          refine wpAnyH_take (i := 21) (oi := ⟨some 34, _, _, _, _, _⟩) (v := ?_) rfl (by kernel_rfl) (by kernel_rfl) (by kernel_rfl) (fun _ _ _ h => h) (Or.inl ⟨by rfl, ?_⟩) (by assumption) ?_
          rotate_left
          · (intro w9 hSw; (try dsimp only at hSw); go_simp; try with_reducible rfl)
          try simp only [Act.put, List.setIfInBounds_toArray, List.set_cons_zero, List.set_cons_succ]
          refine wpAnyH_ready (rs := [22]) (by kernel_rfl) (by simp) ?_
          refine AllReadyH.cons (o := ⟨none, _, _, _, _, _⟩) rfl (fun K9 hK9 => ?_) AllReadyH.nil
          go_simp
          refine hK9.out _ _ ?_ (fun hHeld => ?_)
          · trivial
          clear hK9 K9
          try simp only [Act.put]
          refine wpAnyH_ready (rs := [23]) (by kernel_rfl) (by simp) ?_
          refine AllReadyH.cons (o := ⟨none, _, _, _, _, _⟩) rfl (fun K9 hK9 => ?_) AllReadyH.nil
          go_simp
          refine hK9.out _ _ ?_ (fun hHeld => ?_)
          · trivial
          clear hK9 K9
          try simp only [Act.put]
          refine wpAnyH_done (by kernel_rfl) ?_ _
          go_wp2_with fail
          go_meet
          exact ⟨rfl, rfl, X, e1, Y, e2, KA, KB, LX, LY, BB⟩
        refine AllReadyH.cons (o := ⟨some 33, _, _, _, _, _⟩) rfl (fun K9 hK9 => ?_) AllReadyH.nil
        · skip
          go_simp; go_at_call 7
          refine (HFW.out _ HB0.out).mono ?_
          rintro e wa ⟨X, e1, Y, e2, rfl, hLX, hLY, hba⟩
          have hK0 := HK0.out.below hba
          have hK1 := HK1.out.below hba
          have d1 := pcell1 hK0
          have f1 := hK0.frozen 1
          have d2 := pcell0 hK1
          have d3 := pcell1 hK1
          have f2 := hK1.frozen 0
          have f3 := hK1.frozen 1
          have hK0b := ((hK0.set_ 1 (sv (xs.take a))).far (p := ⟨w.heap.size + 1, 0, none⟩) (by simp) (.slice X nG e1)).far (p := ⟨w.heap.size + 1, 1, none⟩) (by simp) (.slice Y nF e2)
          have hK1b := ((hK1.far (p := ⟨w.heap.size, 1, none⟩) (by simp) (sv (xs.take a))).set_ 0 (.slice X nG e1)).set_ 1 (.slice Y nF e2)
          have hw2 : w.heap.size + 1 + 1 ≤ w1.heap.size := HLT.out
          have LX := Lib.hid (((((show LF w1.heap.size _ X CG from hLX).base hw2).set_ (b := w.heap.size) (o := 1) (v := sv (xs.take a)) (by omega)).set_ (b := w.heap.size + 1) (o := 0) (v := .slice X nG e1) (by omega)).set_ (b := w.heap.size + 1) (o := 1) (v := .slice Y nF e2) (by omega)).lr
          have LY := Lib.hid (((((show LF w1.heap.size _ Y CF from hLY).base hw2).set_ (b := w.heap.size) (o := 1) (v := sv (xs.take a)) (by omega)).set_ (b := w.heap.size + 1) (o := 0) (v := .slice X nG e1) (by omega)).set_ (b := w.heap.size + 1) (o := 1) (v := .slice Y nF e2) (by omega)).lr
          have BB := Lib.hid (bs (b := w.heap.size + 1) (o := 1) (bs (b := w.heap.size + 1) (o := 0) (bs (b := w.heap.size) (o := 1) (bt HB0.out hba) (Nat.le_refl _) (sv (xs.take a))) (by omega) (.slice X nG e1)) (by omega) (.slice Y nF e2))
          have KA := Lib.hid hK0b
          have KB := Lib.hid hK1b
          clear hK0b hK1b hLX hLY hba hK0 hK1
          refine hK9.out _ _ ?_ (fun hHeld => ?_)
          · trivial
          clear hK9 K9
          try simp only [Act.put, List.setIfInBounds_toArray, List.set_cons_zero, List.set_cons_succ]
          refine wpAnyH_take (i := 19) (oi := ⟨some 0, _, _, _, _, _⟩) (v := ?_) rfl (by kernel_rfl) (by kernel_rfl) (by kernel_rfl) (fun _ _ _ h => h) (Or.inl ⟨by rfl, ?_⟩) (by assumption) ?_
          rotate_left
          · (intro w9 hSw; (try dsimp only at hSw); go_simp; try with_reducible rfl)
          try simp only [Act.put, List.setIfInBounds_toArray, List.set_cons_zero]
          refine wpAnyH_take (i := 20) (oi := ⟨some 1, _, _, _, _, _⟩) (v := ?_) rfl (by kernel_rfl) (by kernel_rfl) (by kernel_rfl) (fun _ _ _ h => h) (Or.inl ⟨by rfl, ?_⟩) (by assumption) ?_
          rotate_left
          · (intro w9 hSw; (try dsimp only at hSw); go_simp; try with_reducible rfl)
          try simp only [Act.put, List.setIfInBounds_toArray, List.set_cons_zero, List.set_cons_succ]
          refine wpAnyH_ready (rs := [13]) (by kernel_rfl) (by simp) ?_
          refine AllReadyH.cons (o := ⟨some 28, _, _, _, _, _⟩) rfl (fun K9 hK9 => ?_) AllReadyH.nil
          go_simp
          refine hK9.out _ _ ?_ (fun hHeld => ?_)
          · trivial
          clear hK9 K9
          try simp only [Act.put, List.setIfInBounds_toArray, List.set_cons_zero, List.set_cons_succ]
          refine wpAnyH_take (i := 14) (oi := ⟨some 29, _, _, _, _, _⟩) (v := .int .i64 (xl : Int)) rfl (by kernel_rfl) (by kernel_rfl) (by kernel_rfl) (fun _ _ _ h => h) (Or.inl ⟨by rfl, ?_⟩) (by assumption) ?_
          · (intro w9 hSw; (try dsimp only at hSw); go_simp; try with_reducible rfl)
          try simp only [Act.put, List.setIfInBounds_toArray, List.set_cons_zero, List.set_cons_succ]
          refine wpAnyH_take (i := 15) (oi := ⟨some 30, _, _, _, _, _⟩) (v := .int .i64 (a : Int)) rfl (by kernel_rfl) (by kernel_rfl) (by kernel_rfl) (fun _ _ _ h => h) (Or.inl ⟨by rfl, ?_⟩) (by assumption) ?_
          · (intro w9 hSw; (try dsimp only at hSw); go_simp; try with_reducible rfl)
          try simp only [Act.put, List.setIfInBounds_toArray, List.set_cons_zero, List.set_cons_succ]
          refine wpAnyH_take (i := 16) (oi := ⟨some 31, _, _, _, _, _⟩) (v := sv (xs.take a)) rfl (by kernel_rfl) (by kernel_rfl) (by kernel_rfl) (fun _ _ _ h => h) (Or.inl ⟨by rfl, ?_⟩) (by assumption) ?_
          · (intro w9 hSw; (try dsimp only at hSw); go_simp; try with_reducible rfl)
          try simp only [Act.put, List.setIfInBounds_toArray, List.set_cons_zero, List.set_cons_succ]
          refine wpAnyH_take (i := 21) (oi := ⟨some 34, _, _, _, _, _⟩) (v := ?_) rfl (by kernel_rfl) (by kernel_rfl) (by kernel_rfl) (fun _ _ _ h => h) (Or.inl ⟨by rfl, ?_⟩) (by assumption) ?_
          rotate_left
          · (intro w9 hSw; (try dsimp only at hSw); go_simp; try with_reducible rfl)
          try simp only [Act.put, List.setIfInBounds_toArray, List.set_cons_zero, List.set_cons_succ]
          refine wpAnyH_ready (rs := [22]) (by kernel_rfl) (by simp) ?_
          refine AllReadyH.cons (o := ⟨none, _, _, _, _, _⟩) rfl (fun K9 hK9 => ?_) AllReadyH.nil
          go_simp
          refine hK9.out _ _ ?_ (fun hHeld => ?_)
          · trivial
          clear hK9 K9
          try simp only [Act.put]
          refine wpAnyH_ready (rs := [23]) (by kernel_rfl) (by simp) ?_
          refine AllReadyH.cons (o := ⟨none, _, _, _, _, _⟩) rfl (fun K9 hK9 => ?_) AllReadyH.nil
          go_simp
          refine hK9.out _ _ ?_ (fun hHeld => ?_)
          · trivial
          clear hK9 K9
          try simp only [Act.put]
          refine wpAnyH_done (by kernel_rfl) ?_ _
          go_wp2_with fail
          go_meet
          exact ⟨rfl, rfl, X, e1, Y, e2, KA, KB, LX, LY, BB⟩
      refine AllReadyH.cons (o := ⟨some 28, _, _, _, _, _⟩) rfl (fun K9 hK9 => ?_) ?_
      · skip
        go_simp
        refine hK9.out _ _ ?_ (fun hHeld => ?_)
        · trivial
        clear hK9 K9
        try simp only [Act.put, List.setIfInBounds_toArray, List.set_cons_zero, List.set_cons_succ]
        refine wpAnyH_take (i := 14) (oi := ⟨some 29, _, _, _, _, _⟩) (v := .int .i64 (xl : Int)) rfl (by kernel_rfl) (by kernel_rfl) (by kernel_rfl) (fun _ _ _ h => h) (Or.inl ⟨by rfl, ?_⟩) (by assumption) ?_
        · (intro w9 hSw; (try dsimp only at hSw); go_simp; try with_reducible rfl)
        try simp only [Act.put, List.setIfInBounds_toArray, List.set_cons_zero, List.set_cons_succ]
        refine wpAnyH_take (i := 15) (oi := ⟨some 30, _, _, _, _, _⟩) (v := .int .i64 (a : Int)) rfl (by kernel_rfl) (by kernel_rfl) (by kernel_rfl) (fun _ _ _ h => h) (Or.inl ⟨by rfl, ?_⟩) (by assumption) ?_
        · (intro w9 hSw; (try dsimp only at hSw); go_simp; try with_reducible rfl)
        try simp only [Act.put, List.setIfInBounds_toArray, List.set_cons_zero, List.set_cons_succ]
        refine wpAnyH_ready (rs := [11, 18]) (by kernel_rfl) (by simp) ?_
        refine AllReadyH.cons (o := ⟨some 26, _, _, _, _, _⟩) rfl (fun K9 hK9 => ?_) ?_
        · skip
          go_simp
          refine hK9.out _ _ ?_ (fun hHeld => ?_)
          · trivial
          clear hK9 K9
          try simp only [Act.put, List.setIfInBounds_toArray, List.set_cons_zero, List.set_cons_succ]
          refine wpAnyH_take (i := 16) (oi := ⟨some 31, _, _, _, _, _⟩) (v := sv (xs.take a)) rfl (by kernel_rfl) (by kernel_rfl) (by kernel_rfl) (fun _ _ _ h => h) (Or.inl ⟨by rfl, ?_⟩) (by assumption) ?_
          · (intro w9 hSw; (try dsimp only at hSw); go_simp; try with_reducible rfl)
          try simp only [Act.put, List.setIfInBounds_toArray, List.set_cons_zero, List.set_cons_succ]
          refine wpAnyH_ready (rs := [18]) (by kernel_rfl) (by simp) ?_
          refine AllReadyH.cons (o := ⟨some 33, _, _, _, _, _⟩) rfl (fun K9 hK9 => ?_) AllReadyH.nil
          go_simp; go_at_call 7
          refine (HFW.out _ HB0.out).mono ?_
          rintro e wa ⟨X, e1, Y, e2, rfl, hLX, hLY, hba⟩
          have hK0 := HK0.out.below hba
          have hK1 := HK1.out.below hba
          have d1 := pcell1 hK0
          have f1 := hK0.frozen 1
          have d2 := pcell0 hK1
          have d3 := pcell1 hK1
          have f2 := hK1.frozen 0
          have f3 := hK1.frozen 1
          have hK0b := ((hK0.set_ 1 (sv (xs.take a))).far (p := ⟨w.heap.size + 1, 0, none⟩) (by simp) (.slice X nG e1)).far (p := ⟨w.heap.size + 1, 1, none⟩) (by simp) (.slice Y nF e2)
          have hK1b := ((hK1.far (p := ⟨w.heap.size, 1, none⟩) (by simp) (sv (xs.take a))).set_ 0 (.slice X nG e1)).set_ 1 (.slice Y nF e2)
          have hw2 : w.heap.size + 1 + 1 ≤ w1.heap.size := HLT.out
          have LX := Lib.hid (((((show LF w1.heap.size _ X CG from hLX).base hw2).set_ (b := w.heap.size) (o := 1) (v := sv (xs.take a)) (by omega)).set_ (b := w.heap.size + 1) (o := 0) (v := .slice X nG e1) (by omega)).set_ (b := w.heap.size + 1) (o := 1) (v := .slice Y nF e2) (by omega)).lr
          have LY := Lib.hid (((((show LF w1.heap.size _ Y CF from hLY).base hw2).set_ (b := w.heap.size) (o := 1) (v := sv (xs.take a)) (by omega)).set_ (b := w.heap.size + 1) (o := 0) (v := .slice X nG e1) (by omega)).set_ (b := w.heap.size + 1) (o := 1) (v := .slice Y nF e2) (by omega)).lr
          have BB := Lib.hid (bs (b := w.heap.size + 1) (o := 1) (bs (b := w.heap.size + 1) (o := 0) (bs (b := w.heap.size) (o := 1) (bt HB0.out hba) (Nat.le_refl _) (sv (xs.take a))) (by omega) (.slice X nG e1)) (by omega) (.slice Y nF e2))
          have KA := Lib.hid hK0b
          have KB := Lib.hid hK1b
          clear hK0b hK1b hLX hLY hba hK0 hK1
          refine hK9.out _ _ ?_ (fun hHeld => ?_)
          · trivial
          clear hK9 K9
          try simp only [Act.put, List.setIfInBounds_toArray, List.set_cons_zero, List.set_cons_succ]
          refine wpAnyH_take (i := 19) (oi := ⟨some 0, _, _, _, _, _⟩) (v := ?_) rfl (by kernel_rfl) (by kernel_rfl) (by kernel_rfl) (fun _ _ _ h => h) (Or.inl ⟨by rfl, ?_⟩) (by assumption) ?_
          rotate_left
          · (intro w9 hSw; (try dsimp only at hSw); go_simp; try with_reducible rfl)
          try simp only [Act.put, List.setIfInBounds_toArray, List.set_cons_zero]
          refine wpAnyH_take (i := 20) (oi := ⟨some 1, _, _, _, _, _⟩) (v := ?_) rfl (by kernel_rfl) (by kernel_rfl) (by kernel_rfl) (fun _ _ _ h => h) (Or.inl ⟨by rfl, ?_⟩) (by assumption) ?_
          rotate_left
          · (intro w9 hSw; (try dsimp only at hSw); go_simp; try with_reducible rfl)
          try simp only [Act.put, List.setIfInBounds_toArray, List.set_cons_zero, List.set_cons_succ]
          refine wpAnyH_take (i := 21) (oi := ⟨some 34, _, _, _, _, _⟩) (v := ?_) rfl (by kernel_rfl) (by kernel_rfl) (by kernel_rfl) (fun _ _ _ h => h) (Or.inl ⟨by rfl, ?_⟩) (by assumption) ?_
          rotate_left
          · (intro w9 hSw; (try dsimp only at hSw); go_simp; try with_reducible rfl)
          try simp only [Act.put, List.setIfInBounds_toArray, List.set_cons_zero, List.set_cons_succ]
          refine wpAnyH_ready (rs := [22]) (by kernel_rfl) (by simp) ?_
          refine AllReadyH.cons (o := ⟨none, _, _, _, _, _⟩) rfl (fun K9 hK9 => ?_) AllReadyH.nil
          go_simp
          refine hK9.out _ _ ?_ (fun hHeld => ?_)
          · trivial
          clear hK9 K9
          try simp only [Act.put]
          refine wpAnyH_ready (rs := [23]) (by kernel_rfl) (by simp) ?_
          refine AllReadyH.cons (o := ⟨none, _, _, _, _, _⟩) rfl (fun K9 hK9 => ?_) AllReadyH.nil
          go_simp
          refine hK9.out _ _ ?_ (fun hHeld => ?_)
          · trivial
          clear hK9 K9
          try simp only [Act.put]
          refine wpAnyH_done (by kernel_rfl) ?_ _
          go_wp2_with fail
          go_meet
          exact ⟨rfl, rfl, X, e1, Y, e2, KA, KB, LX, LY, BB⟩
        refine AllReadyH.cons (o := ⟨some 33, _, _, _, _, _⟩) rfl (fun K9 hK9 => ?_) AllReadyH.nil
        · skip
          go_simp; go_at_call 7
          refine (HFW.out _ HB0.out).mono ?_
          rintro e wa ⟨X, e1, Y, e2, rfl, hLX, hLY, hba⟩
          have hK0 := HK0.out.below hba
          have hK1 := HK1.out.below hba
          have d1 := pcell1 hK0
          have f1 := hK0.frozen 1
          have d2 := pcell0 hK1
          have d3 := pcell1 hK1
          have f2 := hK1.frozen 0
          have f3 := hK1.frozen 1
          have hK0b := ((hK0.set_ 1 (sv (xs.take a))).far (p := ⟨w.heap.size + 1, 0, none⟩) (by simp) (.slice X nG e1)).far (p := ⟨w.heap.size + 1, 1, none⟩) (by simp) (.slice Y nF e2)
          have hK1b := ((hK1.far (p := ⟨w.heap.size, 1, none⟩) (by simp) (sv (xs.take a))).set_ 0 (.slice X nG e1)).set_ 1 (.slice Y nF e2)
          have hw2 : w.heap.size + 1 + 1 ≤ w1.heap.size := HLT.out
          have LX := Lib.hid (((((show LF w1.heap.size _ X CG from hLX).base hw2).set_ (b := w.heap.size) (o := 1) (v := sv (xs.take a)) (by omega)).set_ (b := w.heap.size + 1) (o := 0) (v := .slice X nG e1) (by omega)).set_ (b := w.heap.size + 1) (o := 1) (v := .slice Y nF e2) (by omega)).lr
          have LY := Lib.hid (((((show LF w1.heap.size _ Y CF from hLY).base hw2).set_ (b := w.heap.size) (o := 1) (v := sv (xs.take a)) (by omega)).set_ (b := w.heap.size + 1) (o := 0) (v := .slice X nG e1) (by omega)).set_ (b := w.heap.size + 1) (o := 1) (v := .slice Y nF e2) (by omega)).lr
          have BB := Lib.hid (bs (b := w.heap.size + 1) (o := 1) (bs (b := w.heap.size + 1) (o := 0) (bs (b := w.heap.size) (o := 1) (bt HB0.out hba) (Nat.le_refl _) (sv (xs.take a))) (by omega) (.slice X nG e1)) (by omega) (.slice Y nF e2))
          have KA := Lib.hid hK0b
          have KB := Lib.hid hK1b
          clear hK0b hK1b hLX hLY hba hK0 hK1
          refine hK9.out _ _ ?_ (fun hHeld => ?_)
          · trivial
          clear hK9 K9
          try simp only [Act.put, List.setIfInBounds_toArray, List.set_cons_zero, List.set_cons_succ]
          refine wpAnyH_take (i := 19) (oi := ⟨some 0, _, _, _, _, _⟩) (v := ?_) rfl (by kernel_rfl) (by kernel_rfl) (by kernel_rfl) (fun _ _ _ h => h) (Or.inl ⟨by rfl, ?_⟩) (by assumption) ?_
          rotate_left
          · (intro w9 hSw; (try dsimp only at hSw); go_simp; try with_reducible rfl)
          try simp only [Act.put, List.setIfInBounds_toArray, List.set_cons_zero]
          refine wpAnyH_take (i := 20) (oi := ⟨some 1, _, _, _, _, _⟩) (v := ?_) rfl (by kernel_rfl) (by kernel_rfl) (by kernel_rfl) (fun _ _ _ h => h) (Or.inl ⟨by rfl, ?_⟩) (by assumption) ?_
          rotate_left
          · (intro w9 hSw; (try dsimp only at hSw); go_simp; try with_reducible rfl)
          try simp only [Act.put, List.setIfInBounds_toArray, List.set_cons_zero, List.set_cons_succ]
          refine wpAnyH_ready (rs := [11]) (by kernel_rfl) (by simp) ?_
          refine AllReadyH.cons (o := ⟨some 26, _, _, _, _, _⟩) rfl (fun K9 hK9 => ?_) AllReadyH.nil
          go_simp
          refine hK9.out _ _ ?_ (fun hHeld => ?_)
          · trivial
          clear hK9 K9
          try simp only [Act.put, List.setIfInBounds_toArray, List.set_cons_zero, List.set_cons_succ]
          refine wpAnyH_take (i := 16) (oi := ⟨some 31, _, _, _, _, _⟩) (v := sv (xs.take a)) rfl (by kernel_rfl) (by kernel_rfl) (by kernel_rfl) (fun _ _ _ h => h) (Or.inl ⟨by rfl, ?_⟩) (by assumption) ?_
          · (intro w9 hSw; (try dsimp only at hSw); go_simp; try with_reducible rfl)
          try simp only [Act.put, List.setIfInBounds_toArray, List.set_cons_zero, List.set_cons_succ]
          refine wpAnyH_take (i := 21) (oi := ⟨some 34, _, _, _, _, _⟩) (v := ?_) rfl (by kernel_rfl) (by kernel_rfl) (by kernel_rfl) (fun _ _ _ h => h) (Or.inl ⟨by rfl, ?_⟩) (by assumption) ?_
          rotate_left
          · (intro w9 hSw; (try dsimp only at hSw); go_simp; try with_reducible rfl)
          try simp only [Act.put, List.setIfInBounds_toArray, List.set_cons_zero, List.set_cons_succ]
          refine wpAnyH_ready (rs := [22]) (by kernel_rfl) (by simp) ?_
          refine AllReadyH.cons (o := ⟨none, _, _, _, _, _⟩) rfl (fun K9 hK9 => ?_) AllReadyH.nil
          go_simp
          refine hK9.out _ _ ?_ (fun hHeld => ?_)
          · trivial
          clear hK9 K9
          try simp only [Act.put]
          refine wpAnyH_ready (rs := [23]) (by kernel_rfl) (by simp) ?_
          refine AllReadyH.cons (o := ⟨none, _, _, _, _, _⟩) rfl (fun K9 hK9 => ?_) AllReadyH.nil
          go_simp
          refine hK9.out _ _ ?_ (fun hHeld => ?_)
          · trivial
          clear hK9 K9
          try simp only [Act.put]
          refine wpAnyH_done (by kernel_rfl) ?_ _
          go_wp2_with fail
          go_meet
          exact ⟨rfl, rfl, X, e1, Y, e2, KA, KB, LX, LY, BB⟩
      refine AllReadyH.cons (o := ⟨some 33, _, _, _, _, _⟩) rfl (fun K9 hK9 => ?_) AllReadyH.nil
      · skip
        go_simp; go_at_call 7
        refine (HFW.out _ HB0.out).mono ?_
        rintro e wa ⟨X, e1, Y, e2, rfl, hLX, hLY, hba⟩
        have hK0 := HK0.out.below hba
        have hK1 := HK1.out.below hba
        have d1 := pcell1 hK0
        have f1 := hK0.frozen 1
        have d2 := pcell0 hK1
        have d3 := pcell1 hK1
        have f2 := hK1.frozen 0
        have f3 := hK1.frozen 1
        have hK0b := ((hK0.set_ 1 (sv (xs.take a))).far (p := ⟨w.heap.size + 1, 0, none⟩) (by simp) (.slice X nG e1)).far (p := ⟨w.heap.size + 1, 1, none⟩) (by simp) (.slice Y nF e2)
        have hK1b := ((hK1.far (p := ⟨w.heap.size, 1, none⟩) (by simp) (sv (xs.take a))).set_ 0 (.slice X nG e1)).set_ 1 (.slice Y nF e2)
        have hw2 : w.heap.size + 1 + 1 ≤ w1.heap.size := HLT.out
        have LX := Lib.hid (((((show LF w1.heap.size _ X CG from hLX).base hw2).set_ (b := w.heap.size) (o := 1) (v := sv (xs.take a)) (by omega)).set_ (b := w.heap.size + 1) (o := 0) (v := .slice X nG e1) (by omega)).set_ (b := w.heap.size + 1) (o := 1) (v := .slice Y nF e2) (by omega)).lr
        have LY := Lib.hid (((((show LF w1.heap.size _ Y CF from hLY).base hw2).set_ (b := w.heap.size) (o := 1) (v := sv (xs.take a)) (by omega)).set_ (b := w.heap.size + 1) (o := 0) (v := .slice X nG e1) (by omega)).set_ (b := w.heap.size + 1) (o := 1) (v := .slice Y nF e2) (by omega)).lr
        have BB := Lib.hid (bs (b := w.heap.size + 1) (o := 1) (bs (b := w.heap.size + 1) (o := 0) (bs (b := w.heap.size) (o := 1) (bt HB0.out hba) (Nat.le_refl _) (sv (xs.take a))) (by omega) (.slice X nG e1)) (by omega) (.slice Y nF e2))
        have KA := Lib.hid hK0b
        have KB := Lib.hid hK1b
        clear hK0b hK1b hLX hLY hba hK0 hK1
        refine hK9.out _ _ ?_ (fun hHeld => ?_)
        · trivial
        clear hK9 K9
        try simp only [Act.put, List.setIfInBounds_toArray, List.set_cons_zero, List.set_cons_succ]
        refine wpAnyH_take (i := 19) (oi := ⟨some 0, _, _, _, _, _⟩) (v := ?_) rfl (by kernel_rfl) (by kernel_rfl) (by kernel_rfl) (fun _ _ _ h => h) (Or.inl ⟨by rfl, ?_⟩) (by assumption) ?_
        rotate_left
        · (intro w9 hSw; (try dsimp only at hSw); go_simp; try with_reducible rfl)
        try simp only [Act.put, List.setIfInBounds_toArray, List.set_cons_zero]
        refine wpAnyH_take (i := 20) (oi := ⟨some 1, _, _, _, _, _⟩) (v := ?_) rfl (by kernel_rfl) (by kernel_rfl) (by kernel_rfl) (fun _ _ _ h => h) (Or.inl ⟨by rfl, ?_⟩) (by assumption) ?_
        rotate_left
        · (intro w9 hSw; (try dsimp only at hSw); go_simp; try with_reducible rfl)
        try simp only [Act.put, List.setIfInBounds_toArray, List.set_cons_zero, List.set_cons_succ]
        refine wpAnyH_ready (rs := [11, 13]) (by kernel_rfl) (by simp) ?_
        refine AllReadyH.cons (o := ⟨some 26, _, _, _, _, _⟩) rfl (fun K9 hK9 => ?_) ?_
        · skip
          go_simp
          refine hK9.out _ _ ?_ (fun hHeld => ?_)
          · trivial
          clear hK9 K9
          try simp only [Act.put, List.setIfInBounds_toArray, List.set_cons_zero, List.set_cons_succ]
          refine wpAnyH_ready (rs := [13]) (by kernel_rfl) (by simp) ?_
          refine AllReadyH.cons (o := ⟨some 28, _, _, _, _, _⟩) rfl (fun K9 hK9 => ?_) AllReadyH.nil
          go_simp
          refine hK9.out _ _ ?_ (fun hHeld => ?_)
          · trivial
          clear hK9 K9
          try simp only [Act.put, List.setIfInBounds_toArray, List.set_cons_zero, List.set_cons_succ]
          refine wpAnyH_take (i := 14) (oi := ⟨some 29, _, _, _, _, _⟩) (v := .int .i64 (xl : Int)) rfl (by kernel_rfl) (by kernel_rfl) (by kernel_rfl) (fun _ _ _ h => h) (Or.inl ⟨by rfl, ?_⟩) (by assumption) ?_
          · (intro w9 hSw; (try dsimp only at hSw); go_simp; try with_reducible rfl)
          try simp only [Act.put, List.setIfInBounds_toArray, List.set_cons_zero, List.set_cons_succ]
          refine wpAnyH_take (i := 15) (oi := ⟨some 30, _, _, _, _, _⟩) (v := .int .i64 (a : Int)) rfl (by kernel_rfl) (by kernel_rfl) (by kernel_rfl) (fun _ _ _ h => h) (Or.inl ⟨by rfl, ?_⟩) (by assumption) ?_
          · (intro w9 hSw; (try dsimp only at hSw); go_simp; try with_reducible rfl)
          try simp only [Act.put, List.setIfInBounds_toArray, List.set_cons_zero, List.set_cons_succ]
          refine wpAnyH_take (i := 16) (oi := ⟨some 31, _, _, _, _, _⟩) (v := sv (xs.take a)) rfl (by kernel_rfl) (by kernel_rfl) (by kernel_rfl) (fun _ _ _ h => h) (Or.inl ⟨by rfl, ?_⟩) (by assumption) ?_
          · (intro w9 hSw; (try dsimp only at hSw); go_simp; try with_reducible rfl)
          try simp only [Act.put, List.setIfInBounds_toArray, List.set_cons_zero, List.set_cons_succ]
          refine wpAnyH_take (i := 21) (oi := ⟨some 34, _, _, _, _, _⟩) (v := ?_) rfl (by kernel_rfl) (by kernel_rfl) (by kernel_rfl) (fun _ _ _ h => h) (Or.inl ⟨by rfl, ?_⟩) (by assumption) ?_
          rotate_left
          · (intro w9 hSw; (try dsimp only at hSw); go_simp; try with_reducible rfl)
          try simp only [Act.put, List.setIfInBounds_toArray, List.set_cons_zero, List.set_cons_succ]
          refine wpAnyH_ready (rs := [22]) (by kernel_rfl) (by simp) ?_
          refine AllReadyH.cons (o := ⟨none, _, _, _, _, _⟩) rfl (fun K9 hK9 => ?_) AllReadyH.nil
          go_simp
          refine hK9.out _ _ ?_ (fun hHeld => ?_)
          · trivial
          clear hK9 K9
          try simp only [Act.put]
          refine wpAnyH_ready (rs := [23]) (by kernel_rfl) (by simp) ?_
          refine AllReadyH.cons (o := ⟨none, _, _, _, _, _⟩) rfl (fun K9 hK9 => ?_) AllReadyH.nil
          go_simp
          refine hK9.out _ _ ?_ (fun hHeld => ?_)
          · trivial
          clear hK9 K9
          try simp only [Act.put]
          refine wpAnyH_done (by kernel_rfl) ?_ _
          go_wp2_with fail
          go_meet
          exact ⟨rfl, rfl, X, e1, Y, e2, KA, KB, LX, LY, BB⟩
        refine AllReadyH.cons (o := ⟨some 28, _, _, _, _, _⟩) rfl (fun K9 hK9 => ?_) AllReadyH.nil
        · skip
          go_simp
          refine hK9.out _ _ ?_ (fun hHeld => ?_)
          · trivial
          clear hK9 K9
          try simp only [Act.put, List.setIfInBounds_toArray, List.set_cons_zero, List.set_cons_succ]
          refine wpAnyH_take (i := 14) (oi := ⟨some 29, _, _, _, _, _⟩) (v := .int .i64 (xl : Int)) rfl (by kernel_rfl) (by kernel_rfl) (by kernel_rfl) (fun _ _ _ h => h) (Or.inl ⟨by rfl, ?_⟩) (by assumption) ?_
          · (intro w9 hSw; (try dsimp only at hSw); go_simp; try with_reducible rfl)
          try simp only [Act.put, List.setIfInBounds_toArray, List.set_cons_zero, List.set_cons_succ]
          refine wpAnyH_take (i := 15) (oi := ⟨some 30, _, _, _, _, _⟩) (v := .int .i64 (a : Int)) rfl (by kernel_rfl) (by kernel_rfl) (by kernel_rfl) (fun _ _ _ h => h) (Or.inl ⟨by rfl, ?_⟩) (by assumption) ?_
          · (intro w9 hSw; (try dsimp only at hSw); go_simp; try with_reducible rfl)
          try simp only [Act.put, List.setIfInBounds_toArray, List.set_cons_zero, List.set_cons_succ]
          refine wpAnyH_ready (rs := [11]) (by kernel_rfl) (by simp) ?_
          refine AllReadyH.cons (o := ⟨some 26, _, _, _, _, _⟩) rfl (fun K9 hK9 => ?_) AllReadyH.nil
          go_simp
          refine hK9.out _ _ ?_ (fun hHeld => ?_)
          · trivial
          clear hK9 K9
          try simp only [Act.put, List.setIfInBounds_toArray, List.set_cons_zero, List.set_cons_succ]
          refine wpAnyH_take (i := 16) (oi := ⟨some 31, _, _, _, _, _⟩) (v := sv (xs.take a)) rfl (by kernel_rfl) (by kernel_rfl) (by kernel_rfl) (fun _ _ _ h => h) (Or.inl ⟨by rfl, ?_⟩) (by assumption) ?_
          · (intro w9 hSw; (try dsimp only at hSw); go_simp; try with_reducible rfl)
          try simp only [Act.put, List.setIfInBounds_toArray, List.set_cons_zero, List.set_cons_succ]
          refine wpAnyH_take (i := 21) (oi := ⟨some 34, _, _, _, _, _⟩) (v := ?_) rfl (by kernel_rfl) (by kernel_rfl) (by kernel_rfl) (fun _ _ _ h => h) (Or.inl ⟨by rfl, ?_⟩) (by assumption) ?_
          rotate_left
          · (intro w9 hSw; (try dsimp only at hSw); go_simp; try with_reducible rfl)
          try simp only [Act.put, List.setIfInBounds_toArray, List.set_cons_zero, List.set_cons_succ]
          refine wpAnyH_ready (rs := [22]) (by kernel_rfl) (by simp) ?_
          refine AllReadyH.cons (o := ⟨none, _, _, _, _, _⟩) rfl (fun K9 hK9 => ?_) AllReadyH.nil
          go_simp
          refine hK9.out _ _ ?_ (fun hHeld => ?_)
          · trivial
          clear hK9 K9
          try simp only [Act.put]
          refine wpAnyH_ready (rs := [23]) (by kernel_rfl) (by simp) ?_
          refine AllReadyH.cons (o := ⟨none, _, _, _, _, _⟩) rfl (fun K9 hK9 => ?_) AllReadyH.nil
          go_simp
          refine hK9.out _ _ ?_ (fun hHeld => ?_)
          · trivial
          clear hK9 K9
          try simp only [Act.put]
          refine wpAnyH_done (by kernel_rfl) ?_ _
          go_wp2_with fail
          go_meet
          exact ⟨rfl, rfl, X, e1, Y, e2, KA, KB, LX, LY, BB⟩
    -- end 1
  case rest =>
    clear HK0 HK1 HB0 c0 c1 c2 c4 HLT HFW hex hex2 hz0 hz1 h1 h2 h3 h4 h5 h6 h7 hsl hc0
    obtain ⟨rfl, rfl, X, e1, Y, e2, HK, HP, HX, HY, HB⟩ := hcut
    generalize xs.take a = ys at *
    generalize k0.take p = key at *
    have HRT := Lib.hid (fun W (hb : Below w.heap.size w W) => yRoot_any key A n c L W hkl (hA.later hb) hl9 (by omega) hx9 (hT.later hb))
    by_cases hr : IRt L
    · rw [show yrootE L = 0 by rw [yrootE, if_pos hr], show yrootRes key L = yroot key L by rw [yrootRes, if_pos hr]] at HRT
      have q0 := pcell0 HK.out
      have q1 := pcell1 HK.out
      have q2 := pcell0 HP.out
      have q3 := pcell1 HP.out
      by_cases hok : PRt CG ∧ PRt CF
      · obtain ⟨hgr, hfr⟩ := hok
        obtain rfl : 8 = nG := by rw [← hng, hgr.1]
        obtain rfl : 8 = nF := by rw [← hnf, hfr.1]
        have TC := Lib.hid (fun W (hb : Below wc.heap.size wc W) => pCheck_yes X Y e1 e2 xk ys (yroot key L) CG CF W hvl hk (HX.out.later hb) (HY.out.later hb) hgr hfr)
        have HTW : Hid (hsumL (psteps (xk, ys) CG CF 8) = yroot key L → (xk, ys) ∉ L → ∀ W, Below wc.heap.size wc W →
            Calls Tryz.prog 23 #[.string ⟨key.toArray⟩, .slice A n c, piv xk ys, pfv X 8 e1 Y 8 e2] W fun e w' => e = .returned (.bool true) ∧ Below W.heap.size W w') := Lib.hid fun g1 g2 W hb => by
          have htw := pbind (k := key) (Z := L) hx9 hk hgr hfr g1 g2
          rw [hl9] at htw
          exact ptwice_yes key A X Y n c e1 e2 xk ys L _ _ W hkl (hA.later (bt HB.out hb)) hl9 (by omega) hx9 (fun x hx => by
            obtain ⟨i, hi, rfl⟩ := List.getElem_of_mem hx
            have := hr.2.1 i hi
            simpa [List.getD, hi] using this) hvl hk (HX.out.later hb) (HY.out.later hb) hgr hfr htw
        have HLj := Lib.hid (fun j W (hj : j < n) (hb : Below w.heap.size w W) => (hA.later hb) j (by omega))
        have HNI : Hid ((∀ j, j < n → (xk, ys) ≠ L.getD j (0, [])) → (xk, ys) ∉ L) := Lib.hid fun h hm => by
          obtain ⟨i, hi, he⟩ := List.getElem_of_mem hm
          exact h i (by omega) (by simp [List.getD, hi, he])
        clear hgr hfr HX HY hG6 hF6 hng hnf hk hA hl9 hx9 hkl hvl hT hr
        generalize yroot key L = t at *
        generalize hsumL (psteps (xk, ys) CG CF 8) = y at *
        go_wp2_with fail
        refine (HRT.out _ HB.out).mono ?_
        rintro e w2 ⟨rfl, hb2⟩
        have HD2 := Lib.hid hb2
        have q0 := pcell0 (HK.out.below hb2)
        have q1 := pcell1 (HK.out.below hb2)
        have q2 := pcell0 (HP.out.below hb2)
        have q3 := pcell1 (HP.out.below hb2)
        clear hb2 HRT
        go_wp2_with fail
        refine (TC.out _ HD2.out).mono ?_
        rintro e w3 ⟨rfl, hb3⟩
        have HD3 := Lib.hid (bt HD2.out hb3)
        clear hb3 HD2 q0 q1 q2 q3 TC
        by_cases hso : y = t
        · rw [decide_eq_true hso]
          have HTT := Lib.hid (HTW.out hso)
          clear hso HTW
          go_wp2_with fail
          go_loopw [64] (fun jv wr => ∃ j : Nat, j ≤ n ∧ jv = .int .i64 (j : Int) ∧ Hid (∀ i, i < j → (xk, ys) ≠ L.getD i (0, [])) ∧ Hid (Below wc.heap.size wc wr)) (fun j _ => n - (intOf j).toNat)
          case atStart => exact ⟨0, Nat.zero_le _, rfl, Lib.hid (fun i hi => absurd hi (Nat.not_lt_zero _)), HD3⟩
          case round =>
            clear HD3
            obtain ⟨j, hj, rfl, HNJ, HD⟩ := hrel
            have q0 := pcell0 (HK.out.below HD.out)
            have q1 := pcell1 (HK.out.below HD.out)
            have q2 := pcell0 (HP.out.below HD.out)
            have q3 := pcell1 (HP.out.below HD.out)
            by_cases hlt : j < n
            · obtain ⟨gz, oz, rfl, z0, z1⟩ := HLj.out j wr hlt (bt HB.out HD.out)
              have HN2 : Hid ((xk, ys) ≠ L.getD j (0, []) → ∀ i, i < j + 1 → (xk, ys) ≠ L.getD i (0, [])) := Lib.hid fun h i hi => by
                by_cases e : i = j
                · rw [e]; exact h
                · exact HNJ.out i (by omega)
              have i0 : (0 : Int) ≤ (j : Int) := by omega
              have i1 : (j : Int) < (n : Int) := by omega
              generalize L.getD j (0, []) = zz at *
              obtain ⟨zk, zs⟩ := zz
              simp only at z0 z1
              have hbA := ba (Below.refl wr.heap.size wr) (.cells #[.int .u64 (zk : Int), sv zs] 42)
              have hkA := Blk.new wr 42 #[.int .u64 (zk : Int), sv zs]
              have r0 := pcell0 hkA
              have r1 := pcell1 hkA
              have p0 := cell_later hbA q0
              have p1 := cell_later hbA q1
              have HDA := Lib.hid (bt HD.out hbA)
              by_cases hzz : xk = zk
              · subst hzz
                by_cases hyy : ys = zs
                · subst hyy
                  clear HN2
                  go_wp2_with fail
                  refine (HAL.out _ (bt HB.out HDA.out)).mono ?_
                  rintro e w5 ⟨rfl, hb5⟩
                  have hb6 := bt HB.out (bt HDA.out hb5)
                  go_wp2
                  go_ret
                  exact ⟨rfl, hb6⟩
                · have HN3 := Lib.hid (HN2.out fun h => hyy (by injection h))
                  have hv1 : (ys == zs) = false := by simp only [beq_eq_false_iff_ne]; exact hyy
                  clear HN2 hyy
                  go_wp2_with fail
                  exact ⟨⟨j + 1, by omega, by go_num, HN3, HDA⟩, by simp [intOf]; omega⟩
              · have HN3 := Lib.hid (HN2.out fun h => hzz (by injection h))
                have hv1 : ((xk : Int) == (zk : Int)) = false := by simp; omega
                clear HN2 hzz
                go_wp2_with fail
                exact ⟨⟨j + 1, by omega, by go_num, HN3, HDA⟩, by simp [intOf]; omega⟩
            · obtain rfl : n = j := by omega
              have HTU := Lib.hid (HTT.out (HNI.out HNJ.out))
              go_wp2_with fail
              refine (HAL.out _ (bt HB.out HD.out)).mono ?_
              rintro e w5 ⟨rfl, hb5⟩
              have hb6 := bt HD.out hb5
              have q0 := pcell0 (HK.out.below hb6)
              have q1 := pcell1 (HK.out.below hb6)
              have q2 := pcell0 (HP.out.below hb6)
              have q3 := pcell1 (HP.out.below hb6)
              go_wp2_with fail
              refine (HTU.out _ hb6).mono ?_
              rintro e w7 ⟨rfl, hb7⟩
              have hb8 := bt HB.out (bt hb6 hb7)
              go_wp2
              go_ret
              exact ⟨rfl, hb8⟩
        · rw [decide_eq_false hso]
          go_wp2_with fail
          refine (HAL.out _ (bt HB.out HD3.out)).mono ?_
          rintro e w5 ⟨rfl, hb5⟩
          have hb6 := bt HB.out (bt HD3.out hb5)
          go_wp2
          go_ret
          exact ⟨rfl, hb6⟩
      · have TC := Lib.hid (fun W (hb : Below wc.heap.size wc W) => pCheck_no X Y nG e1 nF e2 xk ys ⟨(yroot key L).toArray⟩ 1 W (by decide) (fun W2 hb2 => pSteps_arg X Y nG e1 nF e2 xk ys CG CF W2 hvl (HX.out.later (bt hb hb2)) (HY.out.later (bt hb hb2)) hng hnf (by omega) (by omega) hG6 hF6 hok))
        clear hok HX HY hG6 hF6 hng hnf hk hA hl9 hx9 hkl hvl hT hr
        generalize yroot key L = t at *
        go_wp2_with fail
        refine (HRT.out _ HB.out).mono ?_
        rintro e w2 ⟨rfl, hb2⟩
        have HD2 := Lib.hid hb2
        have q0 := pcell0 (HK.out.below hb2)
        have q1 := pcell1 (HK.out.below hb2)
        have q2 := pcell0 (HP.out.below hb2)
        have q3 := pcell1 (HP.out.below hb2)
        clear hb2 HRT
        go_wp2_with fail
        refine (TC.out _ HD2.out).mono ?_
        rintro e w3 ⟨rfl, hb3⟩
        have HD3 := Lib.hid (bt HD2.out hb3)
        clear hb3 HD2 q0 q1 q2 q3 TC
        go_wp2_with fail
        refine (HAL.out _ (bt HB.out HD3.out)).mono ?_
        rintro e w5 ⟨rfl, hb5⟩
        have hb6 := bt HB.out (bt HD3.out hb5)
        go_wp2
        go_ret
        exact ⟨rfl, hb6⟩
    · rw [show yrootE L = 1 by rw [yrootE, if_neg hr], show yrootRes key L = [] by rw [yrootRes, if_neg hr]] at HRT
      clear hA hl9 hx9 hkl hvl hT hr hk hG6 hF6 hng hnf
      go_wp2_with fail
      refine (HRT.out _ HB.out).mono ?_
      rintro e w2 ⟨rfl, hb2⟩
      have HD2 := Lib.hid hb2
      clear hb2 HRT
      go_wp2_with fail
      refine (HAL.out _ (bt HB.out HD2.out)).mono ?_
      rintro e w5 ⟨rfl, hb5⟩
      have hb6 := bt HB.out (bt HD2.out hb5)
      go_wp2
      go_ret
      exact ⟨rfl, hb6⟩
end Go.Proofs.YtjonhenllhnibaaGreatDoor
