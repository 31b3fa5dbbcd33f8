/- Texts of this seat, one behind the other: YLawJ. -/
import Derived.Deep.RegionHeld3
import Derived.Test.YthllanndiahdjaaDoorQ19
import Derived.Test.YthllanndiahdjaaDoorQ20
/- The walk of LabelJoins. -/
namespace Go.Proofs.YthllanndiahdjaaDoor
open Go.RowKit

/-- A row of texts, behind a store into an item's block whose label it does not hold. -/
theorem SR.setI {W : World} {A : Option Addr} {L : List (List UInt8)} {b o : Nat} {v : Value} (h : SR W A L) (hA : ∀ a, A = some a → a.block ≠ b) : SR (W.setCell ⟨b, o, none⟩ v) A L := fun j hj => by
  obtain ⟨g, off, e, h0⟩ := h j hj
  exact ⟨g, off, e, (World.cell?_of_block (a := ⟨g, off + j, none⟩) (Below.heap_setCell W ⟨b, o, none⟩ v g (hA _ e))).trans h0⟩

set_option maxRecDepth 100000 in
set_option maxHeartbeats 16000000 in
theorem ylawJ_any (xk : Nat) (xs : List UInt8) (lev : Int) (A : Option Addr) (c : Nat) (L0 : List (List UInt8)) (w : World) (hk : xk < 18446744073709551616) (hA : SR w A L0) (hL : (L0.length : Int) ≤ 9223372036854775807) (hc : L0.length ≤ c) (hs : ∀ j, ((L0.getD j []).length : Int) ≤ 9223372036854775807) (hlv : -9223372036854775808 ≤ lev ∧ lev ≤ 9223372036854775807) (hT : VTab w) :
    Calls Tryd.prog 3 #[.agg #[.int .u64 (xk : Int), sv xs], .int .i64 lev, .slice A L0.length c] w fun e w' => e = .returned (.bool true) ∧ Below w.heap.size w w' := by
  have HF := Lib.hid (fun W (hb : Below w.heap.size w W) => yfew_any L0 A c W (hA.later hb) hL hc hs)
  have HAL := Lib.hid (fun W (hb : Below w.heap.size w W) => yalive_any W (hT.later hb))
  have hml : (yfew L0).length ≤ 8 := by rw [yfew_len]; omega
  obtain ⟨L, hLe⟩ : ∃ L, yfew L0 = L := ⟨_, rfl⟩
  rw [hLe] at HF hml
  obtain ⟨m, hm⟩ : ∃ m, L.length = m := ⟨_, rfl⟩
  rw [hm] at HF hml
  obtain ⟨N, hN⟩ : ∃ N, L0.length = N := ⟨_, rfl⟩
  rw [hN] at HF ⊢
  have hzx := size_mk xs
  obtain ⟨a, ha⟩ : ∃ a, min xs.length 70 = a := ⟨_, rfl⟩
  have hex := extract_take xs a
  have hyl : (xs.take a).length = a := by rw [List.length_take]; omega
  obtain ⟨xl, hxl⟩ : ∃ xl, xs.length = xl := ⟨_, rfl⟩
  rw [hxl] at hzx ha
  have j1 : min (xl : Int) 70 = (a : Int) := by omega
  have j2 : (a : Int) ≤ (xl : Int) := by omega
  have j3 : a ≤ xl := by omega
  have ha70 : a ≤ 70 := by omega
  clear hA hL hc hs hLe hN hxl ha hT
  have hk0 := Blk.new w 24 #[.int .u64 (xk : Int), sv xs]
  have hb0 := ba (Below.refl w.heap.size w) (.cells #[.int .u64 (xk : Int), sv xs] 24)
  go_enter Tryd.func3, Tryd.ntmps3
  go_upto_region 1 with fail
  generalize w.alloc (.cells #[.int .u64 (xk : Int), sv xs] 24) = w1 at hk0 hb0 ⊢
  have HK0 := Lib.hid (show Blk w1.drew w.heap.size 24 #[.int .u64 (xk : Int), sv xs] from hk0)
  have HB0 := Lib.hid hb0.drew
  have c1 := hk0.cell 1
  simp only [List.getElem?_toArray, List.getElem?_cons_zero, List.getElem?_cons_succ] at c1
  have HLT := Lib.hid hk0.lt
  clear hk0 hb0
  go_cut [2] from 12 to 22 (fun s2 wx => ∃ A' c', s2 = .slice A' m c' ∧ m ≤ c' ∧ Hid (SR wx A' L) ∧ Hid (Blk wx w.heap.size 24 #[.int .u64 (xk : Int), sv (xs.take a)]) ∧ Hid (Below w.heap.size w wx))
  case first =>
    -- region 1
    refine wp_region_held_drew (S := fun _ => True) (by kernel_rfl) trivial (fun hHeld => ?_)
    refine wpAnyH_take (i := 0) (oi := ⟨some 12, _, _, _, _, _⟩) (v := ?_) rfl (by kernel_rfl) (by kernel_rfl) (by kernel_rfl) (fun _ _ _ h => h) (Or.inl ⟨by rfl, ?_⟩) (by assumption) ?_
    rotate_left
    · (intro w9 hSw; (try dsimp only at hSw); go_simp; try with_reducible rfl)
    try simp only [Act.put, List.setIfInBounds_toArray, List.set_cons_zero, List.set_cons_succ]
    refine wpAnyH_take (i := 2) (oi := ⟨some 14, _, _, _, _, _⟩) (v := ?_) rfl (by kernel_rfl) (by kernel_rfl) (by kernel_rfl) (fun _ _ _ h => h) (Or.inl ⟨by rfl, ?_⟩) (by assumption) ?_
    rotate_left
    · (intro w9 hSw; (try dsimp only at hSw); go_simp; try with_reducible rfl)
    try simp only [Act.put, List.setIfInBounds_toArray, List.set_cons_zero, List.set_cons_succ]
    refine wpAnyH_take (i := 7) (oi := ⟨some 19, _, _, _, _, _⟩) (v := ?_) rfl (by kernel_rfl) (by kernel_rfl) (by kernel_rfl) (fun _ _ _ h => h) (Or.inl ⟨by rfl, ?_⟩) (by assumption) ?_
    rotate_left
    · (intro w9 hSw; (try dsimp only at hSw); go_simp; try with_reducible rfl)
    try simp only [Act.put, List.setIfInBounds_toArray, List.set_cons_zero, List.set_cons_succ]
    refine wpAnyH_ready (rs := [1, 3, 8]) (by kernel_rfl) (by simp) ?_
    refine AllReadyH.cons (o := ⟨some 13, _, _, _, _, _⟩) rfl (fun K9 hK9 => ?_) ?_
    · skip
      go_simp
      refine hK9.out _ _ ?_ (fun hHeld => ?_)
      · trivial
      clear hK9 K9
      try simp only [Act.put, List.setIfInBounds_toArray, List.set_cons_zero, List.set_cons_succ]
      refine wpAnyH_ready (rs := [3, 8]) (by kernel_rfl) (by simp) ?_
      refine AllReadyH.cons (o := ⟨some 15, _, _, _, _, _⟩) rfl (fun K9 hK9 => ?_) ?_
      · skip
        go_simp
        refine hK9.out _ _ ?_ (fun hHeld => ?_)
        · trivial
        clear hK9 K9
        try simp only [Act.put, List.setIfInBounds_toArray, List.set_cons_zero, List.set_cons_succ]
        refine wpAnyH_take (i := 4) (oi := ⟨some 16, _, _, _, _, _⟩) (v := .int .i64 (xl : Int)) rfl (by kernel_rfl) (by kernel_rfl) (by kernel_rfl) (fun _ _ _ h => h) (Or.inl ⟨by rfl, ?_⟩) (by assumption) ?_
        · (intro w9 hSw; (try dsimp only at hSw); go_simp; try with_reducible rfl)
        try simp only [Act.put, List.setIfInBounds_toArray, List.set_cons_zero, List.set_cons_succ]
        refine wpAnyH_take (i := 5) (oi := ⟨some 17, _, _, _, _, _⟩) (v := .int .i64 (a : Int)) rfl (by kernel_rfl) (by kernel_rfl) (by kernel_rfl) (fun _ _ _ h => h) (Or.inl ⟨by rfl, ?_⟩) (by assumption) ?_
        · (intro w9 hSw; (try dsimp only at hSw); go_simp; try with_reducible rfl)
        try simp only [Act.put, List.setIfInBounds_toArray, List.set_cons_zero, List.set_cons_succ]
        refine wpAnyH_take (i := 6) (oi := ⟨some 18, _, _, _, _, _⟩) (v := sv (xs.take a)) rfl (by kernel_rfl) (by kernel_rfl) (by kernel_rfl) (fun _ _ _ h => h) (Or.inl ⟨by rfl, ?_⟩) (by assumption) ?_
        · (intro w9 hSw; (try dsimp only at hSw); go_simp; try with_reducible rfl)
        try simp only [Act.put, List.setIfInBounds_toArray, List.set_cons_zero, List.set_cons_succ]
        refine wpAnyH_take (i := 9) (oi := ⟨some 21, _, _, _, _, _⟩) (v := ?_) rfl (by kernel_rfl) (by kernel_rfl) (by kernel_rfl) (fun _ _ _ h => h) (Or.inl ⟨by rfl, ?_⟩) (by assumption) ?_
        rotate_left
        · (intro w9 hSw; (try dsimp only at hSw); go_simp; try with_reducible rfl)
        try simp only [Act.put, List.setIfInBounds_toArray, List.set_cons_zero, List.set_cons_succ]
        refine wpAnyH_ready (rs := [8]) (by kernel_rfl) (by simp) ?_
        refine AllReadyH.cons (o := ⟨some 20, _, _, _, _, _⟩) rfl (fun K9 hK9 => ?_) AllReadyH.nil
        go_simp; go_at_call 6
        refine (HF.out _ HB0.out).mono ?_
        rintro e wa ⟨A', c', rfl, hcc, hga, hSa, hba⟩
        have HSa := Lib.hid hSa
        have K1 := HK0.out.below hba
        have c2 := K1.cell 1
        have f2 := K1.frozen 1
        have KK9 := Lib.hid (K1.set_ 1 (sv (xs.take a)))
        have S9 := Lib.hid (SR.setI (b := w.heap.size) (o := 1) (v := sv (xs.take a)) HSa.out (fun a9 e9 => by have h1 := hga a9 e9; have h2 : w.heap.size < w1.drew.heap.size := HLT.out; omega))
        have B9 := Lib.hid (bs (b := w.heap.size) (o := 1) (bt HB0.out hba) (Nat.le_refl _) (sv (xs.take a)))
        clear hSa hba HSa
        refine hK9.out _ _ ?_ (fun hHeld => ?_)
        · trivial
        clear hK9 K9
        try simp only [Act.put, List.setIfInBounds_toArray, List.set_cons_zero, List.set_cons_succ]
        refine wpAnyH_ready (rs := [10]) (by kernel_rfl) (by simp) ?_
        refine AllReadyH.cons (o := ⟨none, _, _, _, _, _⟩) rfl (fun K9 hK9 => ?_) AllReadyH.nil
        go_simp
        refine hK9.out _ _ ?_ (fun hHeld => ?_)
        · trivial
        clear hK9 K9
        try simp only [Act.put]
        refine wpAnyH_take (i := 11) (oi := ⟨some 2, _, _, _, _, _⟩) (v := ?_) rfl (by kernel_rfl) (by kernel_rfl) (by kernel_rfl) (fun _ _ _ h => h) (Or.inl ⟨by rfl, ?_⟩) (by assumption) ?_
        rotate_left
        · (intro w9 hSw; (try dsimp only at hSw); go_simp; try with_reducible rfl)
        try simp only [Act.put, List.setIfInBounds_toArray, List.set_cons_zero, List.set_cons_succ]
        refine wpAnyH_done (by kernel_rfl) ?_ _
        go_wp2_with fail
        go_meet
        exact ⟨A', c', rfl, hcc, S9, KK9, B9⟩
      refine AllReadyH.cons (o := ⟨some 20, _, _, _, _, _⟩) rfl (fun K9 hK9 => ?_) AllReadyH.nil
      · skip
        go_simp; go_at_call 6
        refine (HF.out _ HB0.out).mono ?_
        rintro e wa ⟨A', c', rfl, hcc, hga, hSa, hba⟩
        have HSa := Lib.hid hSa
        have K1 := HK0.out.below hba
        have c2 := K1.cell 1
        have f2 := K1.frozen 1
        have KK9 := Lib.hid (K1.set_ 1 (sv (xs.take a)))
        have S9 := Lib.hid (SR.setI (b := w.heap.size) (o := 1) (v := sv (xs.take a)) HSa.out (fun a9 e9 => by have h1 := hga a9 e9; have h2 : w.heap.size < w1.drew.heap.size := HLT.out; omega))
        have B9 := Lib.hid (bs (b := w.heap.size) (o := 1) (bt HB0.out hba) (Nat.le_refl _) (sv (xs.take a)))
        clear hSa hba HSa
        refine hK9.out _ _ ?_ (fun hHeld => ?_)
        · trivial
        clear hK9 K9
        try simp only [Act.put, List.setIfInBounds_toArray, List.set_cons_zero, List.set_cons_succ]
        refine wpAnyH_ready (rs := [3]) (by kernel_rfl) (by simp) ?_
        refine AllReadyH.cons (o := ⟨some 15, _, _, _, _, _⟩) rfl (fun K9 hK9 => ?_) AllReadyH.nil
        go_simp
        refine hK9.out _ _ ?_ (fun hHeld => ?_)
        · trivial
        clear hK9 K9
        try simp only [Act.put, List.setIfInBounds_toArray, List.set_cons_zero, List.set_cons_succ]
        refine wpAnyH_take (i := 4) (oi := ⟨some 16, _, _, _, _, _⟩) (v := .int .i64 (xl : Int)) rfl (by kernel_rfl) (by kernel_rfl) (by kernel_rfl) (fun _ _ _ h => h) (Or.inl ⟨by rfl, ?_⟩) (by assumption) ?_
        · (intro w9 hSw; (try dsimp only at hSw); go_simp; try with_reducible rfl)
        try simp only [Act.put, List.setIfInBounds_toArray, List.set_cons_zero, List.set_cons_succ]
        refine wpAnyH_take (i := 5) (oi := ⟨some 17, _, _, _, _, _⟩) (v := .int .i64 (a : Int)) rfl (by kernel_rfl) (by kernel_rfl) (by kernel_rfl) (fun _ _ _ h => h) (Or.inl ⟨by rfl, ?_⟩) (by assumption) ?_
        · (intro w9 hSw; (try dsimp only at hSw); go_simp; try with_reducible rfl)
        try simp only [Act.put, List.setIfInBounds_toArray, List.set_cons_zero, List.set_cons_succ]
        refine wpAnyH_take (i := 6) (oi := ⟨some 18, _, _, _, _, _⟩) (v := sv (xs.take a)) rfl (by kernel_rfl) (by kernel_rfl) (by kernel_rfl) (fun _ _ _ h => h) (Or.inl ⟨by rfl, ?_⟩) (by assumption) ?_
        · (intro w9 hSw; (try dsimp only at hSw); go_simp; try with_reducible rfl)
        try simp only [Act.put, List.setIfInBounds_toArray, List.set_cons_zero, List.set_cons_succ]
        refine wpAnyH_take (i := 9) (oi := ⟨some 21, _, _, _, _, _⟩) (v := ?_) rfl (by kernel_rfl) (by kernel_rfl) (by kernel_rfl) (fun _ _ _ h => h) (Or.inl ⟨by rfl, ?_⟩) (by assumption) ?_
        rotate_left
        · (intro w9 hSw; (try dsimp only at hSw); go_simp; try with_reducible rfl)
        try simp only [Act.put, List.setIfInBounds_toArray, List.set_cons_zero, List.set_cons_succ]
        refine wpAnyH_ready (rs := [10]) (by kernel_rfl) (by simp) ?_
        refine AllReadyH.cons (o := ⟨none, _, _, _, _, _⟩) rfl (fun K9 hK9 => ?_) AllReadyH.nil
        go_simp
        refine hK9.out _ _ ?_ (fun hHeld => ?_)
        · trivial
        clear hK9 K9
        try simp only [Act.put]
        refine wpAnyH_take (i := 11) (oi := ⟨some 2, _, _, _, _, _⟩) (v := ?_) rfl (by kernel_rfl) (by kernel_rfl) (by kernel_rfl) (fun _ _ _ h => h) (Or.inl ⟨by rfl, ?_⟩) (by assumption) ?_
        rotate_left
        · (intro w9 hSw; (try dsimp only at hSw); go_simp; try with_reducible rfl)
        try simp only [Act.put, List.setIfInBounds_toArray, List.set_cons_zero, List.set_cons_succ]
        refine wpAnyH_done (by kernel_rfl) ?_ _
        go_wp2_with fail
        go_meet
        exact ⟨A', c', rfl, hcc, S9, KK9, B9⟩
    refine AllReadyH.cons (o := ⟨some 15, _, _, _, _, _⟩) rfl (fun K9 hK9 => ?_) ?_
    · skip
      go_simp
      refine hK9.out _ _ ?_ (fun hHeld => ?_)
      · trivial
      clear hK9 K9
      try simp only [Act.put, List.setIfInBounds_toArray, List.set_cons_zero, List.set_cons_succ]
      refine wpAnyH_take (i := 4) (oi := ⟨some 16, _, _, _, _, _⟩) (v := .int .i64 (xl : Int)) rfl (by kernel_rfl) (by kernel_rfl) (by kernel_rfl) (fun _ _ _ h => h) (Or.inl ⟨by rfl, ?_⟩) (by assumption) ?_
      · (intro w9 hSw; (try dsimp only at hSw); go_simp; try with_reducible rfl)
      try simp only [Act.put, List.setIfInBounds_toArray, List.set_cons_zero, List.set_cons_succ]
      refine wpAnyH_take (i := 5) (oi := ⟨some 17, _, _, _, _, _⟩) (v := .int .i64 (a : Int)) rfl (by kernel_rfl) (by kernel_rfl) (by kernel_rfl) (fun _ _ _ h => h) (Or.inl ⟨by rfl, ?_⟩) (by assumption) ?_
      · (intro w9 hSw; (try dsimp only at hSw); go_simp; try with_reducible rfl)
      try simp only [Act.put, List.setIfInBounds_toArray, List.set_cons_zero, List.set_cons_succ]
      refine wpAnyH_ready (rs := [1, 8]) (by kernel_rfl) (by simp) ?_
      refine AllReadyH.cons (o := ⟨some 13, _, _, _, _, _⟩) rfl (fun K9 hK9 => ?_) ?_
      · skip
        go_simp
        refine hK9.out _ _ ?_ (fun hHeld => ?_)
        · trivial
        clear hK9 K9
        try simp only [Act.put, List.setIfInBounds_toArray, List.set_cons_zero, List.set_cons_succ]
        refine wpAnyH_take (i := 6) (oi := ⟨some 18, _, _, _, _, _⟩) (v := sv (xs.take a)) rfl (by kernel_rfl) (by kernel_rfl) (by kernel_rfl) (fun _ _ _ h => h) (Or.inl ⟨by rfl, ?_⟩) (by assumption) ?_
        · (intro w9 hSw; (try dsimp only at hSw); go_simp; try with_reducible rfl)
        try simp only [Act.put, List.setIfInBounds_toArray, List.set_cons_zero, List.set_cons_succ]
        refine wpAnyH_take (i := 9) (oi := ⟨some 21, _, _, _, _, _⟩) (v := ?_) rfl (by kernel_rfl) (by kernel_rfl) (by kernel_rfl) (fun _ _ _ h => h) (Or.inl ⟨by rfl, ?_⟩) (by assumption) ?_
        rotate_left
        · (intro w9 hSw; (try dsimp only at hSw); go_simp; try with_reducible rfl)
        try simp only [Act.put, List.setIfInBounds_toArray, List.set_cons_zero, List.set_cons_succ]
        refine wpAnyH_ready (rs := [8]) (by kernel_rfl) (by simp) ?_
        refine AllReadyH.cons (o := ⟨some 20, _, _, _, _, _⟩) rfl (fun K9 hK9 => ?_) AllReadyH.nil
        go_simp; go_at_call 6
        refine (HF.out _ HB0.out).mono ?_
        rintro e wa ⟨A', c', rfl, hcc, hga, hSa, hba⟩
        have HSa := Lib.hid hSa
        have K1 := HK0.out.below hba
        have c2 := K1.cell 1
        have f2 := K1.frozen 1
        have KK9 := Lib.hid (K1.set_ 1 (sv (xs.take a)))
        have S9 := Lib.hid (SR.setI (b := w.heap.size) (o := 1) (v := sv (xs.take a)) HSa.out (fun a9 e9 => by have h1 := hga a9 e9; have h2 : w.heap.size < w1.drew.heap.size := HLT.out; omega))
        have B9 := Lib.hid (bs (b := w.heap.size) (o := 1) (bt HB0.out hba) (Nat.le_refl _) (sv (xs.take a)))
        clear hSa hba HSa
        refine hK9.out _ _ ?_ (fun hHeld => ?_)
        · trivial
        clear hK9 K9
        try simp only [Act.put, List.setIfInBounds_toArray, List.set_cons_zero, List.set_cons_succ]
        refine wpAnyH_ready (rs := [10]) (by kernel_rfl) (by simp) ?_
        refine AllReadyH.cons (o := ⟨none, _, _, _, _, _⟩) rfl (fun K9 hK9 => ?_) AllReadyH.nil
        go_simp
        refine hK9.out _ _ ?_ (fun hHeld => ?_)
        · trivial
        clear hK9 K9
        try simp only [Act.put]
        refine wpAnyH_take (i := 11) (oi := ⟨some 2, _, _, _, _, _⟩) (v := ?_) rfl (by kernel_rfl) (by kernel_rfl) (by kernel_rfl) (fun _ _ _ h => h) (Or.inl ⟨by rfl, ?_⟩) (by assumption) ?_
        rotate_left
        · (intro w9 hSw; (try dsimp only at hSw); go_simp; try with_reducible rfl)
        try simp only [Act.put, List.setIfInBounds_toArray, List.set_cons_zero, List.set_cons_succ]
        refine wpAnyH_done (by kernel_rfl) ?_ _
        go_wp2_with fail
        go_meet
        exact ⟨A', c', rfl, hcc, S9, KK9, B9⟩
      refine AllReadyH.cons (o := ⟨some 20, _, _, _, _, _⟩) rfl (fun K9 hK9 => ?_) AllReadyH.nil
      · skip
        go_simp; go_at_call 6
        refine (HF.out _ HB0.out).mono ?_
        rintro e wa ⟨A', c', rfl, hcc, hga, hSa, hba⟩
        have HSa := Lib.hid hSa
        have K1 := HK0.out.below hba
        have c2 := K1.cell 1
        have f2 := K1.frozen 1
        have KK9 := Lib.hid (K1.set_ 1 (sv (xs.take a)))
        have S9 := Lib.hid (SR.setI (b := w.heap.size) (o := 1) (v := sv (xs.take a)) HSa.out (fun a9 e9 => by have h1 := hga a9 e9; have h2 : w.heap.size < w1.drew.heap.size := HLT.out; omega))
        have B9 := Lib.hid (bs (b := w.heap.size) (o := 1) (bt HB0.out hba) (Nat.le_refl _) (sv (xs.take a)))
        clear hSa hba HSa
        refine hK9.out _ _ ?_ (fun hHeld => ?_)
        · trivial
        clear hK9 K9
        try simp only [Act.put, List.setIfInBounds_toArray, List.set_cons_zero, List.set_cons_succ]
        refine wpAnyH_ready (rs := [1]) (by kernel_rfl) (by simp) ?_
        refine AllReadyH.cons (o := ⟨some 13, _, _, _, _, _⟩) rfl (fun K9 hK9 => ?_) AllReadyH.nil
        go_simp
        refine hK9.out _ _ ?_ (fun hHeld => ?_)
        · trivial
        clear hK9 K9
        try simp only [Act.put, List.setIfInBounds_toArray, List.set_cons_zero, List.set_cons_succ]
        refine wpAnyH_take (i := 6) (oi := ⟨some 18, _, _, _, _, _⟩) (v := sv (xs.take a)) rfl (by kernel_rfl) (by kernel_rfl) (by kernel_rfl) (fun _ _ _ h => h) (Or.inl ⟨by rfl, ?_⟩) (by assumption) ?_
        · (intro w9 hSw; (try dsimp only at hSw); go_simp; try with_reducible rfl)
        try simp only [Act.put, List.setIfInBounds_toArray, List.set_cons_zero, List.set_cons_succ]
        refine wpAnyH_take (i := 9) (oi := ⟨some 21, _, _, _, _, _⟩) (v := ?_) rfl (by kernel_rfl) (by kernel_rfl) (by kernel_rfl) (fun _ _ _ h => h) (Or.inl ⟨by rfl, ?_⟩) (by assumption) ?_
        rotate_left
        · (intro w9 hSw; (try dsimp only at hSw); go_simp; try with_reducible rfl)
        try simp only [Act.put, List.setIfInBounds_toArray, List.set_cons_zero, List.set_cons_succ]
        refine wpAnyH_ready (rs := [10]) (by kernel_rfl) (by simp) ?_
        refine AllReadyH.cons (o := ⟨none, _, _, _, _, _⟩) rfl (fun K9 hK9 => ?_) AllReadyH.nil
        go_simp
        refine hK9.out _ _ ?_ (fun hHeld => ?_)
        · trivial
        clear hK9 K9
        try simp only [Act.put]
        refine wpAnyH_take (i := 11) (oi := ⟨some 2, _, _, _, _, _⟩) (v := ?_) rfl (by kernel_rfl) (by kernel_rfl) (by kernel_rfl) (fun _ _ _ h => h) (Or.inl ⟨by rfl, ?_⟩) (by assumption) ?_
        rotate_left
        · (intro w9 hSw; (try dsimp only at hSw); go_simp; try with_reducible rfl)
        try simp only [Act.put, List.setIfInBounds_toArray, List.set_cons_zero, List.set_cons_succ]
        refine wpAnyH_done (by kernel_rfl) ?_ _
        go_wp2_with fail
        go_meet
        exact ⟨A', c', rfl, hcc, S9, KK9, B9⟩
    refine AllReadyH.cons (o := ⟨some 20, _, _, _, _, _⟩) rfl (fun K9 hK9 => ?_) AllReadyH.nil
    · skip
      go_simp; go_at_call 6
      refine (HF.out _ HB0.out).mono ?_
      rintro e wa ⟨A', c', rfl, hcc, hga, hSa, hba⟩
      have HSa := Lib.hid hSa
      have K1 := HK0.out.below hba
      have c2 := K1.cell 1
      have f2 := K1.frozen 1
      have KK9 := Lib.hid (K1.set_ 1 (sv (xs.take a)))
      have S9 := Lib.hid (SR.setI (b := w.heap.size) (o := 1) (v := sv (xs.take a)) HSa.out (fun a9 e9 => by have h1 := hga a9 e9; have h2 : w.heap.size < w1.drew.heap.size := HLT.out; omega))
      have B9 := Lib.hid (bs (b := w.heap.size) (o := 1) (bt HB0.out hba) (Nat.le_refl _) (sv (xs.take a)))
      clear hSa hba HSa
      refine hK9.out _ _ ?_ (fun hHeld => ?_)
      · trivial
      clear hK9 K9
      try simp only [Act.put, List.setIfInBounds_toArray, List.set_cons_zero, List.set_cons_succ]
      refine wpAnyH_ready (rs := [1, 3]) (by kernel_rfl) (by simp) ?_
      refine AllReadyH.cons (o := ⟨some 13, _, _, _, _, _⟩) rfl (fun K9 hK9 => ?_) ?_
      · skip
        go_simp
        refine hK9.out _ _ ?_ (fun hHeld => ?_)
        · trivial
        clear hK9 K9
        try simp only [Act.put, List.setIfInBounds_toArray, List.set_cons_zero, List.set_cons_succ]
        refine wpAnyH_ready (rs := [3]) (by kernel_rfl) (by simp) ?_
        refine AllReadyH.cons (o := ⟨some 15, _, _, _, _, _⟩) rfl (fun K9 hK9 => ?_) AllReadyH.nil
        go_simp
        refine hK9.out _ _ ?_ (fun hHeld => ?_)
        · trivial
        clear hK9 K9
        try simp only [Act.put, List.setIfInBounds_toArray, List.set_cons_zero, List.set_cons_succ]
        refine wpAnyH_take (i := 4) (oi := ⟨some 16, _, _, _, _, _⟩) (v := .int .i64 (xl : Int)) rfl (by kernel_rfl) (by kernel_rfl) (by kernel_rfl) (fun _ _ _ h => h) (Or.inl ⟨by rfl, ?_⟩) (by assumption) ?_
        · (intro w9 hSw; (try dsimp only at hSw); go_simp; try with_reducible rfl)
        try simp only [Act.put, List.setIfInBounds_toArray, List.set_cons_zero, List.set_cons_succ]
        refine wpAnyH_take (i := 5) (oi := ⟨some 17, _, _, _, _, _⟩) (v := .int .i64 (a : Int)) rfl (by kernel_rfl) (by kernel_rfl) (by kernel_rfl) (fun _ _ _ h => h) (Or.inl ⟨by rfl, ?_⟩) (by assumption) ?_
        · (intro w9 hSw; (try dsimp only at hSw); go_simp; try with_reducible rfl)
        try simp only [Act.put, List.setIfInBounds_toArray, List.set_cons_zero, List.set_cons_succ]
        refine wpAnyH_take (i := 6) (oi := ⟨some 18, _, _, _, _, _⟩) (v := sv (xs.take a)) rfl (by kernel_rfl) (by kernel_rfl) (by kernel_rfl) (fun _ _ _ h => h) (Or.inl ⟨by rfl, ?_⟩) (by assumption) ?_
        · (intro w9 hSw; (try dsimp only at hSw); go_simp; try with_reducible rfl)
        try simp only [Act.put, List.setIfInBounds_toArray, List.set_cons_zero, List.set_cons_succ]
        refine wpAnyH_take (i := 9) (oi := ⟨some 21, _, _, _, _, _⟩) (v := ?_) rfl (by kernel_rfl) (by kernel_rfl) (by kernel_rfl) (fun _ _ _ h => h) (Or.inl ⟨by rfl, ?_⟩) (by assumption) ?_
        rotate_left
        · (intro w9 hSw; (try dsimp only at hSw); go_simp; try with_reducible rfl)
        try simp only [Act.put, List.setIfInBounds_toArray, List.set_cons_zero, List.set_cons_succ]
        refine wpAnyH_ready (rs := [10]) (by kernel_rfl) (by simp) ?_
        refine AllReadyH.cons (o := ⟨none, _, _, _, _, _⟩) rfl (fun K9 hK9 => ?_) AllReadyH.nil
        go_simp
        refine hK9.out _ _ ?_ (fun hHeld => ?_)
        · trivial
        clear hK9 K9
        try simp only [Act.put]
        refine wpAnyH_take (i := 11) (oi := ⟨some 2, _, _, _, _, _⟩) (v := ?_) rfl (by kernel_rfl) (by kernel_rfl) (by kernel_rfl) (fun _ _ _ h => h) (Or.inl ⟨by rfl, ?_⟩) (by assumption) ?_
        rotate_left
        · (intro w9 hSw; (try dsimp only at hSw); go_simp; try with_reducible rfl)
        try simp only [Act.put, List.setIfInBounds_toArray, List.set_cons_zero, List.set_cons_succ]
        refine wpAnyH_done (by kernel_rfl) ?_ _
        go_wp2_with fail
        go_meet
        exact ⟨A', c', rfl, hcc, S9, KK9, B9⟩
      refine AllReadyH.cons (o := ⟨some 15, _, _, _, _, _⟩) rfl (fun K9 hK9 => ?_) AllReadyH.nil
      · skip
        go_simp
        refine hK9.out _ _ ?_ (fun hHeld => ?_)
        · trivial
        clear hK9 K9
        try simp only [Act.put, List.setIfInBounds_toArray, List.set_cons_zero, List.set_cons_succ]
        refine wpAnyH_take (i := 4) (oi := ⟨some 16, _, _, _, _, _⟩) (v := .int .i64 (xl : Int)) rfl (by kernel_rfl) (by kernel_rfl) (by kernel_rfl) (fun _ _ _ h => h) (Or.inl ⟨by rfl, ?_⟩) (by assumption) ?_
        · (intro w9 hSw; (try dsimp only at hSw); go_simp; try with_reducible rfl)
        try simp only [Act.put, List.setIfInBounds_toArray, List.set_cons_zero, List.set_cons_succ]
        refine wpAnyH_take (i := 5) (oi := ⟨some 17, _, _, _, _, _⟩) (v := .int .i64 (a : Int)) rfl (by kernel_rfl) (by kernel_rfl) (by kernel_rfl) (fun _ _ _ h => h) (Or.inl ⟨by rfl, ?_⟩) (by assumption) ?_
        · (intro w9 hSw; (try dsimp only at hSw); go_simp; try with_reducible rfl)
        try simp only [Act.put, List.setIfInBounds_toArray, List.set_cons_zero, List.set_cons_succ]
        refine wpAnyH_ready (rs := [1]) (by kernel_rfl) (by simp) ?_
        refine AllReadyH.cons (o := ⟨some 13, _, _, _, _, _⟩) rfl (fun K9 hK9 => ?_) AllReadyH.nil
        go_simp
        refine hK9.out _ _ ?_ (fun hHeld => ?_)
        · trivial
        clear hK9 K9
        try simp only [Act.put, List.setIfInBounds_toArray, List.set_cons_zero, List.set_cons_succ]
        refine wpAnyH_take (i := 6) (oi := ⟨some 18, _, _, _, _, _⟩) (v := sv (xs.take a)) rfl (by kernel_rfl) (by kernel_rfl) (by kernel_rfl) (fun _ _ _ h => h) (Or.inl ⟨by rfl, ?_⟩) (by assumption) ?_
        · (intro w9 hSw; (try dsimp only at hSw); go_simp; try with_reducible rfl)
        try simp only [Act.put, List.setIfInBounds_toArray, List.set_cons_zero, List.set_cons_succ]
        refine wpAnyH_take (i := 9) (oi := ⟨some 21, _, _, _, _, _⟩) (v := ?_) rfl (by kernel_rfl) (by kernel_rfl) (by kernel_rfl) (fun _ _ _ h => h) (Or.inl ⟨by rfl, ?_⟩) (by assumption) ?_
        rotate_left
        · (intro w9 hSw; (try dsimp only at hSw); go_simp; try with_reducible rfl)
        try simp only [Act.put, List.setIfInBounds_toArray, List.set_cons_zero, List.set_cons_succ]
        refine wpAnyH_ready (rs := [10]) (by kernel_rfl) (by simp) ?_
        refine AllReadyH.cons (o := ⟨none, _, _, _, _, _⟩) rfl (fun K9 hK9 => ?_) AllReadyH.nil
        go_simp
        refine hK9.out _ _ ?_ (fun hHeld => ?_)
        · trivial
        clear hK9 K9
        try simp only [Act.put]
        refine wpAnyH_take (i := 11) (oi := ⟨some 2, _, _, _, _, _⟩) (v := ?_) rfl (by kernel_rfl) (by kernel_rfl) (by kernel_rfl) (fun _ _ _ h => h) (Or.inl ⟨by rfl, ?_⟩) (by assumption) ?_
        rotate_left
        · (intro w9 hSw; (try dsimp only at hSw); go_simp; try with_reducible rfl)
        try simp only [Act.put, List.setIfInBounds_toArray, List.set_cons_zero, List.set_cons_succ]
        refine wpAnyH_done (by kernel_rfl) ?_ _
        go_wp2_with fail
        go_meet
        exact ⟨A', c', rfl, hcc, S9, KK9, B9⟩
    -- end 1
  case rest =>
    obtain ⟨A', c', rfl, hcc, HS, HK, HB⟩ := hcut
    clear HF HK0 HB0 c1 hex hzx j1 j2 j3 HLT
    generalize xs.take a = ys at *
    have hzy := isize ys
    rw [hyl] at hzy
    obtain ⟨s1, e1, TL, HL1⟩ : ∃ (s1 : List UInt8) (e1 : Int), Hid (∀ W, Calls Tryd.prog 7 #[.agg #[.int .u64 (xk : Int), sv ys]] W fun e w' => e = .returned (.tuple #[.string ⟨s1.toArray⟩, .int .i64 e1]) ∧ Below W.heap.size W w') ∧ Hid ((64 < a ∧ e1 = 4 ∧ s1 = []) ∨ (a ≤ 64 ∧ e1 = 0 ∧ s1 = yleaf (xk, ys))) := by
      by_cases h : a ≤ 64
      · exact ⟨_, _, Lib.hid fun W => yLeaf_yes xk ys W (by omega) hk, Lib.hid (.inr ⟨h, rfl, rfl⟩)⟩
      · exact ⟨[], 4, Lib.hid fun W => yLeaf_no xk ys W (by omega) (by omega), Lib.hid (.inl ⟨by omega, rfl, rfl⟩)⟩
    obtain ⟨s2, e2, TJ, HJ⟩ : ∃ (s2 : List UInt8) (e2 : Int), Hid (∀ W, SR W A' L → Calls Tryd.prog 8 #[.int .i64 lev, .slice A' m c'] W fun e w' => e = .returned (.tuple #[.string ⟨s2.toArray⟩, .int .i64 e2]) ∧ Below W.heap.size W w') ∧
        Hid ((¬ (1 ≤ lev ∧ lev ≤ 8) ∧ e2 = 2 ∧ s2 = []) ∨ ((1 ≤ lev ∧ lev ≤ 8) ∧ (m = 0 ∨ YNo L) ∧ e2 = 4 ∧ s2 = []) ∨ (∃ q : Nat, lev = (q : Int) ∧ 1 ≤ q ∧ q ≤ 8 ∧ ¬ m = 0 ∧ ¬ YNo L ∧ e2 = 0 ∧ s2 = yjoin q L)) := by
      by_cases h : 1 ≤ lev ∧ lev ≤ 8
      · obtain ⟨q, rfl⟩ : ∃ q : Nat, lev = (q : Int) := ⟨lev.toNat, by omega⟩
        by_cases hx : m = 0 ∨ YNo L
        · exact ⟨[], 4, Lib.hid fun W hS => (yJoin_size q A' m c' L W (by omega) hS hm (by omega) hx).mono fun e w' ⟨h1, h2⟩ => ⟨h1, h2 ▸ Below.refl _ _⟩, Lib.hid (.inr (.inl ⟨h, hx, rfl, rfl⟩))⟩
        · have h1 : ¬ m = 0 := fun e => hx (.inl e)
          have h2 : ¬ YNo L := fun e => hx (.inr e)
          exact ⟨_, _, Lib.hid fun W hS => yJoin_yes q A' m c' L W (by omega) hS hm (by omega) hcc (by omega) h2, Lib.hid (.inr (.inr ⟨q, rfl, by omega, by omega, h1, h2, rfl, rfl⟩))⟩
      · exact ⟨[], 2, Lib.hid fun W _ => (yJoin_range lev A' m c' W h).mono fun e w' ⟨h1, h2⟩ => ⟨h1, h2 ▸ Below.refl _ _⟩, Lib.hid (.inl ⟨h, rfl, rfl⟩)⟩
    have k0 := HK.out.cell 0
    have k1 := HK.out.cell 1
    simp only [List.getElem?_toArray, List.getElem?_cons_zero, List.getElem?_cons_succ] at k0 k1
    go_wp2_with fail
    refine (TL.out _).mono ?_
    rintro e w2 ⟨rfl, hb2⟩
    have HS2 := Lib.hid (HS.out.later hb2)
    go_wp2_with fail
    refine (TJ.out _ HS2.out).mono ?_
    rintro e w3 ⟨rfl, hb3⟩
    have HS3 := Lib.hid (HS2.out.later hb3)
    have HK3 := Lib.hid ((HK.out.below hb2).below hb3)
    have HB3 := Lib.hid (bt (bt HB.out hb2) hb3)
    have q0 := HK3.out.cell 0
    have q1 := HK3.out.cell 1
    simp only [List.getElem?_toArray, List.getElem?_cons_zero, List.getElem?_cons_succ] at q0 q1
    clear TL TJ HS HK HB HS2 hb2 hb3 k0 k1
    have HAL3 := Lib.hid (fun W (hb : Below w3.heap.size w3 W) => HAL.out W (bt HB3.out hb))
    go_upto_region 5 with fail
    have HBB : Hid (decide ((64 : Int) < (a : Int)) = true ↔ 64 < a) := Lib.hid (by rw [decide_eq_true_eq]; omega)
    generalize decide ((64 : Int) < (a : Int)) = b64 at HBB ⊢
    go_cut [63] from 37 to 63 (fun s63 wx => s63 = .bool false ∧ Hid (SR wx A' L) ∧ Hid (Below w.heap.size w wx))
    case first =>
      rcases HL1.out with ⟨h1, rfl, rfl⟩ | ⟨h1, rfl, rfl⟩
      · obtain rfl : b64 = true := HBB.out.2 h1
        clear HL1 HBB
        go_wp2_with fail
        refine (HAL3.out _ (Below.refl _ _)).mono ?_
        rintro e w4 ⟨rfl, hb4⟩
        have HB4 := Lib.hid (bt HB3.out hb4)
        have HS4 := Lib.hid (HS3.out.later hb4)
        clear hb4 q0 q1
        go_wp2_with fail
        go_meet
        exact ⟨rfl, HS4, HB4⟩
      · obtain rfl : b64 = false := by
          cases b64 with
          | false => rfl
          | true => exact absurd (HBB.out.1 rfl) (by omega)
        have TR := Lib.hid (fun W => yrleaf_any xk ys W (by omega) hk)
        generalize yleaf (xk, ys) = t at *
        clear HL1 HBB
        go_wp2_with fail
        refine (TR.out _).mono ?_
        rintro e w4 ⟨rfl, hb4⟩
        go_wp2_with fail
        refine (HAL3.out _ hb4).mono ?_
        rintro e w5 ⟨rfl, hb5⟩
        have hb6 := bt hb4 hb5
        have HB6 := Lib.hid (bt HB3.out hb6)
        have HS6 := Lib.hid (HS3.out.later hb6)
        clear hb4 hb5 hb6 q0 q1
        go_wp2_with fail
        go_meet
        exact ⟨rfl, HS6, HB6⟩
    case rest =>
      obtain ⟨rfl, HS5, HB5⟩ := hcut
      clear HS3 HB3 HK3 HAL3 q0 q1 HL1 hzy
      rcases HJ.out with ⟨hl, rfl, rfl⟩ | ⟨hl, hx, rfl, rfl⟩ | ⟨q, rfl, h1, h2, h3, h4, rfl, rfl⟩
      · by_cases h1 : lev < 1
        · clear HJ hl
          go_wp2
          go_ret
          exact ⟨rfl, HB5.out⟩
        · have h8 : 8 < lev := by omega
          clear HJ hl
          go_wp2
          go_ret
          exact ⟨rfl, HB5.out⟩
      · obtain ⟨h1, h8⟩ := hl
        have i1 : ¬ lev < 1 := by omega
        have i8 : ¬ 8 < lev := by omega
        by_cases h0 : m = 0
        · subst h0
          clear HJ hx
          go_wp2
          go_ret
          exact ⟨rfl, HB5.out⟩
        · have hy : YNo L := hx.resolve_left h0
          have e0 : ((m : Int) == 0) = false := by simp; omega
          have TLb := Lib.hid (ylabels_any A' m c' L wc HS5.out hm (by omega))
          clear HJ hx
          go_wp2_with fail
          refine TLb.out.mono ?_
          rintro e w4 ⟨b, rfl, hb, rfl⟩
          obtain rfl : b = false := hb.2 hy
          clear hb hy
          go_wp2
          go_ret
          exact ⟨rfl, HB5.out⟩
      · have TLb := Lib.hid (ylabels_any A' m c' L wc HS5.out hm (by omega))
        have hf : L.flatten.length ≤ 256 := by
          rw [ytake_flat L (fun x hx => by
            obtain ⟨j, hj, rfl⟩ := List.getElem_of_mem hx
            have h5 : (L.getD j []).length = 32 := Classical.byContradiction fun h6 => h4 ⟨j, hj, h6⟩
            simpa [List.getD, hj] using h5)]
          omega
        have TT := Lib.hid (yrtext_any q A' m c' L wc h2 HS5.out hm (by omega) (by omega))
        have TS := Lib.hid (fun W => hrsum_any rwords_holds (ytext q L) W (by rw [ytext_len]; omega))
        have HY : Hid (yjoin q L = hsumL (ytext q L)) := Lib.hid rfl
        rw [HY.out] at *
        generalize hsumL (ytext q L) = t at *
        generalize ytext q L = tx at *
        have i1 : ¬ (q : Int) < 1 := by omega
        have i8 : ¬ (8 : Int) < (q : Int) := by omega
        have e0 : ((m : Int) == 0) = false := by simp; omega
        have h4' := Lib.hid h4
        clear HJ HY hf h4 hlv
        go_wp2_with fail
        refine TLb.out.mono ?_
        rintro e w4 ⟨b, rfl, hb, rfl⟩
        obtain rfl : b = true := by
          cases b with
          | true => rfl
          | false => exact absurd (hb.1 rfl) h4'.out
        clear hb
        go_wp2_with fail
        refine TT.out.mono ?_
        rintro e w5 ⟨rfl, hb5⟩
        go_wp2_with fail
        refine (TS.out _).mono ?_
        rintro e w6 ⟨rfl, hb6⟩
        have hb7 := bt HB5.out (bt hb5 hb6)
        go_wp2
        go_ret
        exact ⟨rfl, hb7⟩
end Go.Proofs.YthllanndiahdjaaDoor
