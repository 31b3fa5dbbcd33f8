/- Texts of this seat, one behind the other: HWords, HWordsR. -/
import Derived.Deep.AppendLies
import Derived.Deep.RegionHeld3
import Derived.Test.YtjonhenllhnibaaGreatDoorQ03
import Derived.Test.YtjonhenllhnibaaGreatDoorQ06
import Derived.Test.YtjonhenllhnibaaGreatDoorQ07
import Derived.Test.YtjonhenllhnibaaGreatDoorQ08
/- The contract of the reference's words. -/
namespace Go.Proofs.YtjonhenllhnibaaGreatDoor
open Go.RowKit

theorem list_at (B : List UInt8) (j : Nat) (h : j < B.length) : (⟨B.toArray⟩ : ByteArray)[j]? = some (B.getD j 0) := by
  have hl : j < (⟨B.toArray⟩ : ByteArray).size := by rw [size_of]; exact h
  rw [getElem?_pos (⟨B.toArray⟩ : ByteArray) j hl]
  have e : (⟨B.toArray⟩ : ByteArray)[j] = B[j] := rfl
  rw [e]
  simp [List.getD, h]
theorem sched_lo (B : List UInt8) (t : Nat) (h : t < 16) : sched B (t + 1) = sched B t ++ [wordAt B t] := by rw [sched, if_pos h]
theorem sched_hi (B : List UInt8) (t : Nat) (h : ¬ t < 16) : sched B (t + 1) = sched B t ++ [hnextW (sched B t) t] := by rw [sched, if_neg h]
theorem own_wn {W : World} {base g c n : Nat} {L : List Nat} (h : W.ownsRow base 79 1 (.slice (some ⟨g, 0, none⟩) n c) n (L.map wv)) (hl : L.length = n) {j : Nat} (hj : j < n) : W.cell? ⟨g, j, none⟩ = some (wv (wn L j)) := by
  rw [h.cellAt j (by omega), wn_get L j (by omega)]
  have : j < L.length := by omega
  simp [this]

set_option maxRecDepth 100000 in
set_option maxHeartbeats 8000000 in
theorem words_any (B : List UInt8) (hB : B.length = 64) (w : World) :
    Calls Tryz.prog 75 #[.string ⟨B.toArray⟩] w fun e w' => ∃ g c, e = .returned (.slice (some ⟨g, 0, none⟩) 64 c) ∧ w'.ownsRow w.heap.size 79 1 (.slice (some ⟨g, 0, none⟩) 64 c) 64 ((sched B 64).map wv) ∧ Below w.heap.size w w' := by
  obtain ⟨i0, hi, hz0, hz1, hz2⟩ := info_parts info25
  have HB := Lib.hid hB
  clear hB
  go_enter Tryz.func75, Tryz.ntmps75
  go_wp2_with fail
  go_loopw [3, 4] (fun ov iv wr => ∃ k g c : Nat, k ≤ 64 ∧ iv = .int .i64 k ∧ ov = .slice (some ⟨g, 0, none⟩) k c ∧ Hid (wr.ownsRow w.heap.size 79 1 (.slice (some ⟨g, 0, none⟩) k c) k ((sched B k).map wv)) ∧ Below w.heap.size w wr) (fun _ iv _ => 64 - (intOf iv).toNat)
  case atStart => exact ⟨0, w.heap.size, 0, Nat.zero_le _, rfl, rfl, Lib.hid ⟨rfl, .inr ⟨_, 0, #[], rfl, Nat.le_refl _, heap_alloc_new w _, Nat.le_refl _, by unfold maxLen; omega, rfl, rfl⟩⟩, ba (Below.refl _ _) _⟩
  case round =>
    obtain ⟨k, g, c, hk, rfl, rfl, HO, hb⟩ := hrel
    by_cases hlt : k < 64
    · by_cases h16 : k < 16
      · have hS := sched_lo B k h16
        have g0 := list_at B (4 * k) (by rw [HB.out]; omega)
        have g1 := list_at B (4 * k + 1) (by rw [HB.out]; omega)
        have g2 := list_at B (4 * k + 2) (by rw [HB.out]; omega)
        have g3 := list_at B (4 * k + 3) (by rw [HB.out]; omega)
        have hW : wordAt B k = (B.getD (4 * k) 0).toNat * 16777216 + (B.getD (4 * k + 1) 0).toNat * 65536 + (B.getD (4 * k + 2) 0).toNat * 256 + (B.getD (4 * k + 3) 0).toNat := rfl
        generalize B.getD (4 * k) 0 = b0 at g0 hW
        generalize B.getD (4 * k + 1) 0 = b1 at g1 hW
        generalize B.getD (4 * k + 2) 0 = b2 at g2 hW
        generalize B.getD (4 * k + 3) 0 = b3 at g3 hW
        obtain ⟨y, hy⟩ : ∃ y, wordAt B k = y := ⟨_, rfl⟩
        rw [hy] at hS hW
        have u0 := b0.toNat_lt
        have u1 := b1.toNat_lt
        have u2 := b2.toNat_lt
        have u3 := b3.toNat_lt
        obtain ⟨n0, hn0⟩ : ∃ n, 4 * k = n := ⟨_, rfl⟩
        obtain ⟨n1, hn1⟩ : ∃ n, 4 * k + 1 = n := ⟨_, rfl⟩
        obtain ⟨n2, hn2⟩ : ∃ n, 4 * k + 2 = n := ⟨_, rfl⟩
        obtain ⟨n3, hn3⟩ : ∃ n, 4 * k + 3 = n := ⟨_, rfl⟩
        rw [hn0] at g0
        rw [hn1] at g1
        rw [hn2] at g2
        rw [hn3] at g3
        have I0 := Lib.hid (index_is ⟨B.toArray⟩ n0 n0 b0 rfl g0)
        have I1 := Lib.hid (index_is ⟨B.toArray⟩ n1 n1 b1 rfl g1)
        have I2 := Lib.hid (index_is ⟨B.toArray⟩ n2 n2 b2 rfl g2)
        have I3 := Lib.hid (index_is ⟨B.toArray⟩ n3 n3 b3 rfl g3)
        generalize b0.toNat = x0 at I0 u0 hW
        generalize b1.toNat = x1 at I1 u1 hW
        generalize b2.toNat = x2 at I2 u2 hW
        generalize b3.toNat = x3 at I3 u3 hW
        obtain ⟨y0, hy0⟩ : ∃ y, x0 * 16777216 = y := ⟨_, rfl⟩
        obtain ⟨y1, hy1⟩ : ∃ y, x1 * 65536 = y := ⟨_, rfl⟩
        obtain ⟨y2, hy2⟩ : ∃ y, x2 * 256 = y := ⟨_, rfl⟩
        obtain ⟨z1, hz1'⟩ : ∃ y, y0 + y1 = y := ⟨_, rfl⟩
        obtain ⟨z2, hz2'⟩ : ∃ y, z1 + y2 = y := ⟨_, rfl⟩
        have A0 : Hid (IntKind.i64.wrap (4 * (k : Int)) = (n0 : Int)) := Lib.hid (by rw [IntKind.wrap_i64]; omega)
        have A1 : Hid (IntKind.i64.wrap ((n0 : Int) + 1) = (n1 : Int)) := Lib.hid (by rw [IntKind.wrap_i64]; omega)
        have A2 : Hid (IntKind.i64.wrap ((n0 : Int) + 2) = (n2 : Int)) := Lib.hid (by rw [IntKind.wrap_i64]; omega)
        have A3 : Hid (IntKind.i64.wrap ((n0 : Int) + 3) = (n3 : Int)) := Lib.hid (by rw [IntKind.wrap_i64]; omega)
        have C0 : Hid (IntKind.u32.wrap (x0 : Int) = (x0 : Int)) := Lib.hid (by rw [IntKind.wrap_u32]; omega)
        have C1 : Hid (IntKind.u32.wrap (x1 : Int) = (x1 : Int)) := Lib.hid (by rw [IntKind.wrap_u32]; omega)
        have C2 : Hid (IntKind.u32.wrap (x2 : Int) = (x2 : Int)) := Lib.hid (by rw [IntKind.wrap_u32]; omega)
        have C3 : Hid (IntKind.u32.wrap (x3 : Int) = (x3 : Int)) := Lib.hid (by rw [IntKind.wrap_u32]; omega)
        have M0 : Hid (IntKind.u32.wrap ((x0 : Int) * 16777216) = (y0 : Int)) := Lib.hid (by rw [IntKind.wrap_u32]; omega)
        have M1 : Hid (IntKind.u32.wrap ((x1 : Int) * 65536) = (y1 : Int)) := Lib.hid (by rw [IntKind.wrap_u32]; omega)
        have M2 : Hid (IntKind.u32.wrap ((x2 : Int) * 256) = (y2 : Int)) := Lib.hid (by rw [IntKind.wrap_u32]; omega)
        have S1 : Hid (IntKind.u32.wrap ((y0 : Int) + (y1 : Int)) = (z1 : Int)) := Lib.hid (by rw [IntKind.wrap_u32]; omega)
        have S2 : Hid (IntKind.u32.wrap ((z1 : Int) + (y2 : Int)) = (z2 : Int)) := Lib.hid (by rw [IntKind.wrap_u32]; omega)
        have S3 : Hid (IntKind.u32.wrap ((z2 : Int) + (x3 : Int)) = (y : Int)) := Lib.hid (by rw [IntKind.wrap_u32]; omega)
        have hk16 : (k : Int) < 16 := by omega
        have HS := Lib.hid hS
        have HZ := Lib.hid hb.size
        have HKL := Lib.hid hlt
        clear hS g0 g1 g2 g3 hW hy u0 u1 u2 u3 hn0 hn1 hn2 hn3 hy0 hy1 hy2 hz1' hz2' h16
        go_wp2_with fail
        clear hlt hk16 hk
        refine wp_region_held_drew (S := fun W => Below w.heap.size w W) (by kernel_rfl) ?_ (fun hHeld => ?_)
        · exact hb.drew
        refine wpAnyH_take (i := 0) (oi := ⟨some 14, _, _, _, _, _⟩) (v := ?_) rfl (by kernel_rfl) (by kernel_rfl) (by kernel_rfl) (fun _ _ _ h => h) (Or.inl ⟨by rfl, ?_⟩) (by assumption) ?_
        rotate_left
        · (intro w hSw; (try dsimp only at hSw); go_simp; try with_reducible rfl)
        simp only [Act.put, List.setIfInBounds_toArray, List.set_cons_zero, List.set_cons_succ]
        refine wpAnyH_take (i := 1) (oi := ⟨some 15, _, _, _, _, _⟩) (v := ?_) rfl (by kernel_rfl) (by kernel_rfl) (by kernel_rfl) (fun _ _ _ h => h) (Or.inl ⟨by rfl, ?_⟩) (by assumption) ?_
        rotate_left
        · (intro w hSw; (try dsimp only at hSw); go_simp; try with_reducible rfl)
        simp only [Act.put, List.setIfInBounds_toArray, List.set_cons_zero, List.set_cons_succ]
        refine wpAnyH_take (i := 2) (oi := ⟨some 16, _, _, _, _, _⟩) (v := ?_) rfl (by kernel_rfl) (by kernel_rfl) (by kernel_rfl) (fun _ _ _ h => h) (Or.inl ⟨by rfl, ?_⟩) (by assumption) ?_
        rotate_left
        · (intro w hSw; (try dsimp only at hSw); go_simp; try with_reducible rfl)
        simp only [Act.put, List.setIfInBounds_toArray, List.set_cons_zero, List.set_cons_succ]
        have fct := A0.out
        refine wpAnyH_take (i := 3) (oi := ⟨some 17, _, _, _, _, _⟩) (v := ?_) rfl (by kernel_rfl) (by kernel_rfl) (by kernel_rfl) (fun _ _ _ h => h) (Or.inl ⟨by rfl, ?_⟩) (by assumption) ?_
        rotate_left
        · (intro w hSw; (try dsimp only at hSw); go_simp; try with_reducible rfl)
        simp only [Act.put, List.setIfInBounds_toArray, List.set_cons_zero, List.set_cons_succ]
        clear fct
        have fct := I0.out
        refine wpAnyH_take (i := 4) (oi := ⟨some 18, _, _, _, _, _⟩) (v := ?_) rfl (by kernel_rfl) (by kernel_rfl) (by kernel_rfl) (fun _ _ _ h => h) (Or.inl ⟨by rfl, ?_⟩) (by assumption) ?_
        rotate_left
        · (intro w hSw; (try dsimp only at hSw); go_simp; try with_reducible rfl)
        simp only [Act.put, List.setIfInBounds_toArray, List.set_cons_zero, List.set_cons_succ]
        clear fct
        have fct := C0.out
        refine wpAnyH_take (i := 5) (oi := ⟨some 19, _, _, _, _, _⟩) (v := ?_) rfl (by kernel_rfl) (by kernel_rfl) (by kernel_rfl) (fun _ _ _ h => h) (Or.inl ⟨by rfl, ?_⟩) (by assumption) ?_
        rotate_left
        · (intro w hSw; (try dsimp only at hSw); go_simp; try with_reducible rfl)
        simp only [Act.put, List.setIfInBounds_toArray, List.set_cons_zero, List.set_cons_succ]
        clear fct
        have fct := M0.out
        refine wpAnyH_take (i := 6) (oi := ⟨some 20, _, _, _, _, _⟩) (v := ?_) rfl (by kernel_rfl) (by kernel_rfl) (by kernel_rfl) (fun _ _ _ h => h) (Or.inl ⟨by rfl, ?_⟩) (by assumption) ?_
        rotate_left
        · (intro w hSw; (try dsimp only at hSw); go_simp; try with_reducible rfl)
        simp only [Act.put, List.setIfInBounds_toArray, List.set_cons_zero, List.set_cons_succ]
        clear fct
        refine wpAnyH_take (i := 7) (oi := ⟨some 21, _, _, _, _, _⟩) (v := ?_) rfl (by kernel_rfl) (by kernel_rfl) (by kernel_rfl) (fun _ _ _ h => h) (Or.inl ⟨by rfl, ?_⟩) (by assumption) ?_
        rotate_left
        · (intro w hSw; (try dsimp only at hSw); go_simp; try with_reducible rfl)
        simp only [Act.put, List.setIfInBounds_toArray, List.set_cons_zero, List.set_cons_succ]
        refine wpAnyH_take (i := 8) (oi := ⟨some 22, _, _, _, _, _⟩) (v := ?_) rfl (by kernel_rfl) (by kernel_rfl) (by kernel_rfl) (fun _ _ _ h => h) (Or.inl ⟨by rfl, ?_⟩) (by assumption) ?_
        rotate_left
        · (intro w hSw; (try dsimp only at hSw); go_simp; try with_reducible rfl)
        simp only [Act.put, List.setIfInBounds_toArray, List.set_cons_zero, List.set_cons_succ]
        have fct := A0.out
        refine wpAnyH_take (i := 9) (oi := ⟨some 23, _, _, _, _, _⟩) (v := ?_) rfl (by kernel_rfl) (by kernel_rfl) (by kernel_rfl) (fun _ _ _ h => h) (Or.inl ⟨by rfl, ?_⟩) (by assumption) ?_
        rotate_left
        · (intro w hSw; (try dsimp only at hSw); go_simp; try with_reducible rfl)
        simp only [Act.put, List.setIfInBounds_toArray, List.set_cons_zero, List.set_cons_succ]
        clear fct
        have fct := A1.out
        refine wpAnyH_take (i := 10) (oi := ⟨some 24, _, _, _, _, _⟩) (v := ?_) rfl (by kernel_rfl) (by kernel_rfl) (by kernel_rfl) (fun _ _ _ h => h) (Or.inl ⟨by rfl, ?_⟩) (by assumption) ?_
        rotate_left
        · (intro w hSw; (try dsimp only at hSw); go_simp; try with_reducible rfl)
        simp only [Act.put, List.setIfInBounds_toArray, List.set_cons_zero, List.set_cons_succ]
        clear fct
        have fct := I1.out
        refine wpAnyH_take (i := 11) (oi := ⟨some 25, _, _, _, _, _⟩) (v := ?_) rfl (by kernel_rfl) (by kernel_rfl) (by kernel_rfl) (fun _ _ _ h => h) (Or.inl ⟨by rfl, ?_⟩) (by assumption) ?_
        rotate_left
        · (intro w hSw; (try dsimp only at hSw); go_simp; try with_reducible rfl)
        simp only [Act.put, List.setIfInBounds_toArray, List.set_cons_zero, List.set_cons_succ]
        clear fct
        have fct := C1.out
        refine wpAnyH_take (i := 12) (oi := ⟨some 26, _, _, _, _, _⟩) (v := ?_) rfl (by kernel_rfl) (by kernel_rfl) (by kernel_rfl) (fun _ _ _ h => h) (Or.inl ⟨by rfl, ?_⟩) (by assumption) ?_
        rotate_left
        · (intro w hSw; (try dsimp only at hSw); go_simp; try with_reducible rfl)
        simp only [Act.put, List.setIfInBounds_toArray, List.set_cons_zero, List.set_cons_succ]
        clear fct
        have fct := M1.out
        refine wpAnyH_take (i := 13) (oi := ⟨some 27, _, _, _, _, _⟩) (v := ?_) rfl (by kernel_rfl) (by kernel_rfl) (by kernel_rfl) (fun _ _ _ h => h) (Or.inl ⟨by rfl, ?_⟩) (by assumption) ?_
        rotate_left
        · (intro w hSw; (try dsimp only at hSw); go_simp; try with_reducible rfl)
        simp only [Act.put, List.setIfInBounds_toArray, List.set_cons_zero, List.set_cons_succ]
        clear fct
        have fct := S1.out
        refine wpAnyH_take (i := 14) (oi := ⟨some 28, _, _, _, _, _⟩) (v := ?_) rfl (by kernel_rfl) (by kernel_rfl) (by kernel_rfl) (fun _ _ _ h => h) (Or.inl ⟨by rfl, ?_⟩) (by assumption) ?_
        rotate_left
        · (intro w hSw; (try dsimp only at hSw); go_simp; try with_reducible rfl)
        simp only [Act.put, List.setIfInBounds_toArray, List.set_cons_zero, List.set_cons_succ]
        clear fct
        refine wpAnyH_take (i := 15) (oi := ⟨some 29, _, _, _, _, _⟩) (v := ?_) rfl (by kernel_rfl) (by kernel_rfl) (by kernel_rfl) (fun _ _ _ h => h) (Or.inl ⟨by rfl, ?_⟩) (by assumption) ?_
        rotate_left
        · (intro w hSw; (try dsimp only at hSw); go_simp; try with_reducible rfl)
        simp only [Act.put, List.setIfInBounds_toArray, List.set_cons_zero, List.set_cons_succ]
        refine wpAnyH_take (i := 16) (oi := ⟨some 30, _, _, _, _, _⟩) (v := ?_) rfl (by kernel_rfl) (by kernel_rfl) (by kernel_rfl) (fun _ _ _ h => h) (Or.inl ⟨by rfl, ?_⟩) (by assumption) ?_
        rotate_left
        · (intro w hSw; (try dsimp only at hSw); go_simp; try with_reducible rfl)
        simp only [Act.put, List.setIfInBounds_toArray, List.set_cons_zero, List.set_cons_succ]
        have fct := A0.out
        refine wpAnyH_take (i := 17) (oi := ⟨some 31, _, _, _, _, _⟩) (v := ?_) rfl (by kernel_rfl) (by kernel_rfl) (by kernel_rfl) (fun _ _ _ h => h) (Or.inl ⟨by rfl, ?_⟩) (by assumption) ?_
        rotate_left
        · (intro w hSw; (try dsimp only at hSw); go_simp; try with_reducible rfl)
        simp only [Act.put, List.setIfInBounds_toArray, List.set_cons_zero, List.set_cons_succ]
        clear fct
        have fct := A2.out
        refine wpAnyH_take (i := 18) (oi := ⟨some 32, _, _, _, _, _⟩) (v := ?_) rfl (by kernel_rfl) (by kernel_rfl) (by kernel_rfl) (fun _ _ _ h => h) (Or.inl ⟨by rfl, ?_⟩) (by assumption) ?_
        rotate_left
        · (intro w hSw; (try dsimp only at hSw); go_simp; try with_reducible rfl)
        simp only [Act.put, List.setIfInBounds_toArray, List.set_cons_zero, List.set_cons_succ]
        clear fct
        have fct := I2.out
        refine wpAnyH_take (i := 19) (oi := ⟨some 33, _, _, _, _, _⟩) (v := ?_) rfl (by kernel_rfl) (by kernel_rfl) (by kernel_rfl) (fun _ _ _ h => h) (Or.inl ⟨by rfl, ?_⟩) (by assumption) ?_
        rotate_left
        · (intro w hSw; (try dsimp only at hSw); go_simp; try with_reducible rfl)
        simp only [Act.put, List.setIfInBounds_toArray, List.set_cons_zero, List.set_cons_succ]
        clear fct
        have fct := C2.out
        refine wpAnyH_take (i := 20) (oi := ⟨some 34, _, _, _, _, _⟩) (v := ?_) rfl (by kernel_rfl) (by kernel_rfl) (by kernel_rfl) (fun _ _ _ h => h) (Or.inl ⟨by rfl, ?_⟩) (by assumption) ?_
        rotate_left
        · (intro w hSw; (try dsimp only at hSw); go_simp; try with_reducible rfl)
        simp only [Act.put, List.setIfInBounds_toArray, List.set_cons_zero, List.set_cons_succ]
        clear fct
        have fct := M2.out
        refine wpAnyH_take (i := 21) (oi := ⟨some 35, _, _, _, _, _⟩) (v := ?_) rfl (by kernel_rfl) (by kernel_rfl) (by kernel_rfl) (fun _ _ _ h => h) (Or.inl ⟨by rfl, ?_⟩) (by assumption) ?_
        rotate_left
        · (intro w hSw; (try dsimp only at hSw); go_simp; try with_reducible rfl)
        simp only [Act.put, List.setIfInBounds_toArray, List.set_cons_zero, List.set_cons_succ]
        clear fct
        have fct := S2.out
        refine wpAnyH_take (i := 22) (oi := ⟨some 36, _, _, _, _, _⟩) (v := ?_) rfl (by kernel_rfl) (by kernel_rfl) (by kernel_rfl) (fun _ _ _ h => h) (Or.inl ⟨by rfl, ?_⟩) (by assumption) ?_
        rotate_left
        · (intro w hSw; (try dsimp only at hSw); go_simp; try with_reducible rfl)
        simp only [Act.put, List.setIfInBounds_toArray, List.set_cons_zero, List.set_cons_succ]
        clear fct
        refine wpAnyH_take (i := 23) (oi := ⟨some 37, _, _, _, _, _⟩) (v := ?_) rfl (by kernel_rfl) (by kernel_rfl) (by kernel_rfl) (fun _ _ _ h => h) (Or.inl ⟨by rfl, ?_⟩) (by assumption) ?_
        rotate_left
        · (intro w hSw; (try dsimp only at hSw); go_simp; try with_reducible rfl)
        simp only [Act.put, List.setIfInBounds_toArray, List.set_cons_zero, List.set_cons_succ]
        refine wpAnyH_take (i := 24) (oi := ⟨some 38, _, _, _, _, _⟩) (v := ?_) rfl (by kernel_rfl) (by kernel_rfl) (by kernel_rfl) (fun _ _ _ h => h) (Or.inl ⟨by rfl, ?_⟩) (by assumption) ?_
        rotate_left
        · (intro w hSw; (try dsimp only at hSw); go_simp; try with_reducible rfl)
        simp only [Act.put, List.setIfInBounds_toArray, List.set_cons_zero, List.set_cons_succ]
        have fct := A0.out
        refine wpAnyH_take (i := 25) (oi := ⟨some 39, _, _, _, _, _⟩) (v := ?_) rfl (by kernel_rfl) (by kernel_rfl) (by kernel_rfl) (fun _ _ _ h => h) (Or.inl ⟨by rfl, ?_⟩) (by assumption) ?_
        rotate_left
        · (intro w hSw; (try dsimp only at hSw); go_simp; try with_reducible rfl)
        simp only [Act.put, List.setIfInBounds_toArray, List.set_cons_zero, List.set_cons_succ]
        clear fct
        have fct := A3.out
        refine wpAnyH_take (i := 26) (oi := ⟨some 40, _, _, _, _, _⟩) (v := ?_) rfl (by kernel_rfl) (by kernel_rfl) (by kernel_rfl) (fun _ _ _ h => h) (Or.inl ⟨by rfl, ?_⟩) (by assumption) ?_
        rotate_left
        · (intro w hSw; (try dsimp only at hSw); go_simp; try with_reducible rfl)
        simp only [Act.put, List.setIfInBounds_toArray, List.set_cons_zero, List.set_cons_succ]
        clear fct
        have fct := I3.out
        refine wpAnyH_take (i := 27) (oi := ⟨some 41, _, _, _, _, _⟩) (v := ?_) rfl (by kernel_rfl) (by kernel_rfl) (by kernel_rfl) (fun _ _ _ h => h) (Or.inl ⟨by rfl, ?_⟩) (by assumption) ?_
        rotate_left
        · (intro w hSw; (try dsimp only at hSw); go_simp; try with_reducible rfl)
        simp only [Act.put, List.setIfInBounds_toArray, List.set_cons_zero, List.set_cons_succ]
        clear fct
        have fct := C3.out
        refine wpAnyH_take (i := 28) (oi := ⟨some 42, _, _, _, _, _⟩) (v := ?_) rfl (by kernel_rfl) (by kernel_rfl) (by kernel_rfl) (fun _ _ _ h => h) (Or.inl ⟨by rfl, ?_⟩) (by assumption) ?_
        rotate_left
        · (intro w hSw; (try dsimp only at hSw); go_simp; try with_reducible rfl)
        simp only [Act.put, List.setIfInBounds_toArray, List.set_cons_zero, List.set_cons_succ]
        clear fct
        have fct := S3.out
        refine wpAnyH_take (i := 29) (oi := ⟨some 43, _, _, _, _, _⟩) (v := ?_) rfl (by kernel_rfl) (by kernel_rfl) (by kernel_rfl) (fun _ _ _ h => h) (Or.inl ⟨by rfl, ?_⟩) (by assumption) ?_
        rotate_left
        · (intro w hSw; (try dsimp only at hSw); go_simp; try with_reducible rfl)
        simp only [Act.put, List.setIfInBounds_toArray, List.set_cons_zero, List.set_cons_succ]
        clear fct
        refine wpAnyH_ready (rs := [30]) (by kernel_rfl) (by simp) ?_
        refine AllReadyH.cons (o := ⟨some 44, _, _, _, _, _⟩) rfl (fun K hK => ?_) AllReadyH.nil
        go_simp
        refine hK.out _ _ ?_ (fun hHeld2 => ?_)
        · exact (hb.drew.alloc hb.size _)
        clear hK K
        have hz := HZ.out
        have hkl := HKL.out
        refine wpAnyH_ready (rs := [31]) (by kernel_rfl) (by simp) ?_
        refine AllReadyH.cons (o := ⟨some 45, _, _, _, _, _⟩) rfl (fun K hK => ?_) AllReadyH.nil
        refine step_append_lies _ (by rfl) _ _ _ (by rfl) w.heap.size 79 i0 (.int .u32 0) 1 4 Tryz.underlying76 hi hz0 hz1 hz2 rfl (by omega) (.slice (some ⟨g, 0, none⟩) k c) k ((sched B k).map wv) (by rfl) (own_alloc HO.out (.cells #[.int .u32 (y : Int)] 79)) ⟨wr.heap.size, 0, none⟩ 1 1 [.int .u32 (y : Int)] (by rfl) rfl (World.news_of_block (cs := #[.int .u32 (y : Int)]) (t := 79) (fr := (0, 0)) (heap_alloc_new wr _)) (by simp [Value.oneCell']) (by omega) (by unfold maxLen; omega) (by omega) (by simp; omega) (wr.heap.size + 1) (by simp) ?_
        intro gg cap w3 hown3 hgrow hat hlt3
        simp only [Act.put, List.setIfInBounds_toArray, List.set_cons_zero, List.set_cons_succ]
        have hB3 : Below w.heap.size w w3 := ((hb.alloc hb.size (.cells #[.int .u32 (y : Int)] 79)).drew).grown hgrow (by simp; omega) (fun r e => (HO.out.lt r e).1)
        refine hK.out _ _ hB3 (fun hHeld3 => ?_)
        clear hK K
        refine wpAnyH_take (i := 32) (oi := ⟨some 3, _, _, _, _, _⟩) (v := ?_) rfl (by kernel_rfl) (by kernel_rfl) (by kernel_rfl) (fun _ _ _ h => h) (Or.inl ⟨by rfl, ?_⟩) (by assumption) ?_
        rotate_left
        · (intro w hSw; (try dsimp only at hSw); go_simp; try with_reducible rfl)
        simp only [Act.put, List.setIfInBounds_toArray, List.set_cons_zero, List.set_cons_succ]
        refine wpAnyH_done (by kernel_rfl) ?_ _
        have HO3 : Hid (w3.ownsRow w.heap.size 79 1 (.slice (some ⟨gg, 0, none⟩) (k + 1) cap) (k + 1) ((sched B (k + 1)).map wv)) := Lib.hid (by rw [HS.out, List.map_append]; exact hown3)
        clear hown3 hgrow hat hHeld hHeld2 hHeld3
        go_wp2_with fail
        exact ⟨⟨k + 1, gg, cap, by omega, by go_num, rfl, HO3, hB3⟩, by simp [intOf]; omega⟩
      · obtain ⟨m15, e15⟩ : ∃ m, k = m + 15 := ⟨k - 15, by omega⟩
        obtain ⟨m2, e2⟩ : ∃ m, k = m + 2 := ⟨k - 2, by omega⟩
        obtain ⟨m7, e7⟩ : ∃ m, k = m + 7 := ⟨k - 7, by omega⟩
        obtain ⟨m16, e16⟩ : ∃ m, k = m + 16 := ⟨k - 16, by omega⟩
        have hS := sched_hi B k h16
        have hln := sched_len B k
        have o15 := own_wn HO.out hln (show m15 < k by omega)
        have o2 := own_wn HO.out hln (show m2 < k by omega)
        have o7 := own_wn HO.out hln (show m7 < k by omega)
        have o16 := own_wn HO.out hln (show m16 < k by omega)
        have l15 := wn_lt (sched_lt B k) m15
        have l2 := wn_lt (sched_lt B k) m2
        have l7 := wn_lt (sched_lt B k) m7
        have l16 := wn_lt (sched_lt B k) m16
        have hN : hnextW (sched B k) k = (sigI (wn (sched B k) m2) + wn (sched B k) m7 + sigO (wn (sched B k) m15) + wn (sched B k) m16) % 4294967296 := by
          unfold hnextW
          rw [show k - 2 = m2 by omega, show k - 7 = m7 by omega, show k - 15 = m15 by omega, show k - 16 = m16 by omega]
        rw [hN] at hS
        clear hN
        generalize wn (sched B k) m15 = a15 at hS o15 l15
        generalize wn (sched B k) m2 = a2 at hS o2 l2
        generalize wn (sched B k) m7 = a7 at hS o7 l7
        generalize wn (sched B k) m16 = a16 at hS o16 l16
        have hO := sigO_int a15 l15
        have hI := sigI_int a2 l2
        have lO := sigO_lt a15 l15
        have lI := sigI_lt a2 l2
        generalize sigO a15 = sO at hS hO lO
        generalize sigI a2 = sI at hS hI lI
        obtain ⟨x, hx⟩ : ∃ x, (sI + a7 + sO + a16) % 4294967296 = x := ⟨_, rfl⟩
        obtain ⟨y, hy⟩ : ∃ y, (sI + a7) % 4294967296 = y := ⟨_, rfl⟩
        obtain ⟨z, hzz⟩ : ∃ z, (y + sO) % 4294967296 = z := ⟨_, rfl⟩
        rw [hx] at hS
        have V1 : Hid (IntKind.u32.wrap ((sI : Int) + (a7 : Int)) = (y : Int)) := Lib.hid (by rw [IntKind.wrap_u32]; omega)
        have V2 : Hid (IntKind.u32.wrap ((y : Int) + (sO : Int)) = (z : Int)) := Lib.hid (by rw [IntKind.wrap_u32]; omega)
        have V3 : Hid (IntKind.u32.wrap ((z : Int) + (a16 : Int)) = (x : Int)) := Lib.hid (by rw [IntKind.wrap_u32]; omega)
        have s15 : IntKind.i64.wrap ((k : Int) - 15) = (m15 : Int) := by rw [IntKind.wrap_i64]; omega
        have T2 : Hid (IntKind.i64.wrap ((k : Int) - 2) = (m2 : Int)) := Lib.hid (by rw [IntKind.wrap_i64]; omega)
        have T7 : Hid (IntKind.i64.wrap ((k : Int) - 7) = (m7 : Int)) := Lib.hid (by rw [IntKind.wrap_i64]; omega)
        have T16 : Hid (IntKind.i64.wrap ((k : Int) - 16) = (m16 : Int)) := Lib.hid (by rw [IntKind.wrap_i64]; omega)
        have p15 : (0 : Int) ≤ (m15 : Int) := by omega
        have q15 : (m15 : Int) < (k : Int) := by omega
        have p2 : (0 : Int) ≤ (m2 : Int) := by omega
        have q2 : (m2 : Int) < (k : Int) := by omega
        have p7 : (0 : Int) ≤ (m7 : Int) := by omega
        have q7 : (m7 : Int) < (k : Int) := by omega
        have p16 : (0 : Int) ≤ (m16 : Int) := by omega
        have q16 : (m16 : Int) < (k : Int) := by omega
        have k16 : (16 : Int) ≤ (k : Int) := by omega
        have k64 : (k : Int) < 64 := by omega
        have HOX := Lib.hid hO
        have HIX := Lib.hid hI
        have HS := Lib.hid hS
        have O2 := Lib.hid o2
        have O7 := Lib.hid o7
        have O16 := Lib.hid o16
        have HZ := Lib.hid hb.size
        have HKL := Lib.hid hlt
        have r7 : Hid (∀ m, Calls Tryz.prog 101 #[.int .u32 (a15 : Int), .int .u32 7] (wr.drewN m) fun e' w' => e' = .returned (.int .u32 (ror a15 7 : Nat)) ∧ ∃ q, w' = wr.drewN q) := Lib.hid fun m => ror_at a15 7 7 wr l15 rfl (by omega) (by omega) m
        have r18 : Hid (∀ m, Calls Tryz.prog 101 #[.int .u32 (a15 : Int), .int .u32 18] (wr.drewN m) fun e' w' => e' = .returned (.int .u32 (ror a15 18 : Nat)) ∧ ∃ q, w' = wr.drewN q) := Lib.hid fun m => ror_at a15 18 18 wr l15 rfl (by omega) (by omega) m
        have hO := HOX.out
        clear hS hI hx hy hzz o2 o7 o16 e15 e2 e7 e16 h16 hln l7 l16 lO lI hlt
        go_wp2_with fail
        go_quiet ((go_at_call 101; with_reducible first | exact r7.out _ | exact r18.out _))
        clear o15 s15 hO r7 r18
        obtain ⟨w1, hw1⟩ := drewN_name wr nq
        rw [hw1]
        have HO1 : Hid (w1.ownsRow w.heap.size 79 1 (.slice (some ⟨g, 0, none⟩) k c) k ((sched B k).map wv)) := Lib.hid (by rw [← hw1]; exact HO.out)
        have o2 : w1.cell? ⟨g, m2, none⟩ = some (wv a2) := by rw [← hw1]; exact O2.out
        have P7 : Hid (w1.cell? ⟨g, m7, none⟩ = some (wv a7)) := Lib.hid (by rw [← hw1]; exact O7.out)
        have P16 : Hid (w1.cell? ⟨g, m16, none⟩ = some (wv a16)) := Lib.hid (by rw [← hw1]; exact O16.out)
        have hb1 : Below w.heap.size w w1 := by rw [← hw1]; exact bdn' hb _
        clear hw1 HO O2 O7 O16 hb HZ
        have r17 : Hid (∀ m, Calls Tryz.prog 101 #[.int .u32 (a2 : Int), .int .u32 17] (w1.drewN m) fun e' w' => e' = .returned (.int .u32 (ror a2 17 : Nat)) ∧ ∃ q, w' = w1.drewN q) := Lib.hid fun m => ror_at a2 17 17 w1 l2 rfl (by omega) (by omega) m
        have r19 : Hid (∀ m, Calls Tryz.prog 101 #[.int .u32 (a2 : Int), .int .u32 19] (w1.drewN m) fun e' w' => e' = .returned (.int .u32 (ror a2 19 : Nat)) ∧ ∃ q, w' = w1.drewN q) := Lib.hid fun m => ror_at a2 19 19 w1 l2 rfl (by omega) (by omega) m
        have hI := HIX.out
        have s2 := T2.out
        go_wp2_with fail
        go_quiet ((go_at_call 101; with_reducible first | exact r17.out _ | exact r19.out _))
        clear o2 s2 hI r17 r19
        obtain ⟨w2, hw2⟩ := drewN_name w1 nq
        rw [hw2]
        have HO2 : Hid (w2.ownsRow w.heap.size 79 1 (.slice (some ⟨g, 0, none⟩) k c) k ((sched B k).map wv)) := Lib.hid (by rw [← hw2]; exact HO1.out)
        have d7 : w2.cell? ⟨g, m7, none⟩ = some (wv a7) := by rw [← hw2]; exact P7.out
        have d16 : w2.cell? ⟨g, m16, none⟩ = some (wv a16) := by rw [← hw2]; exact P16.out
        have hb2 : Below w.heap.size w w2 := by rw [← hw2]; exact bdn' hb1 _
        have HZ := Lib.hid hb2.size
        clear hw2 HO1 P7 P16 hb1
        go_wp2_with fail
        clear hk k64 k16
        refine wp_region_held_drew (S := fun W => Below w.heap.size w W) (by kernel_rfl) ?_ (fun hHeld => ?_)
        · exact hb2.drew
        refine wpAnyH_take (i := 0) (oi := ⟨some 86, _, _, _, _, _⟩) (v := ?_) rfl (by kernel_rfl) (by kernel_rfl) (by kernel_rfl) (fun _ _ _ h => h) (Or.inl ⟨by rfl, ?_⟩) (by assumption) ?_
        rotate_left
        · (intro w hSw; (try dsimp only at hSw); go_simp; try with_reducible rfl)
        simp only [Act.put, List.setIfInBounds_toArray, List.set_cons_zero, List.set_cons_succ]
        refine wpAnyH_take (i := 1) (oi := ⟨some 87, _, _, _, _, _⟩) (v := ?_) rfl (by kernel_rfl) (by kernel_rfl) (by kernel_rfl) (fun _ _ _ h => h) (Or.inl ⟨by rfl, ?_⟩) (by assumption) ?_
        rotate_left
        · (intro w hSw; (try dsimp only at hSw); go_simp; try with_reducible rfl)
        simp only [Act.put, List.setIfInBounds_toArray, List.set_cons_zero, List.set_cons_succ]
        refine wpAnyH_take (i := 2) (oi := ⟨some 88, _, _, _, _, _⟩) (v := ?_) rfl (by kernel_rfl) (by kernel_rfl) (by kernel_rfl) (fun _ _ _ h => h) (Or.inl ⟨by rfl, ?_⟩) (by assumption) ?_
        rotate_left
        · (intro w hSw; (try dsimp only at hSw); go_simp; try with_reducible rfl)
        simp only [Act.put, List.setIfInBounds_toArray, List.set_cons_zero, List.set_cons_succ]
        refine wpAnyH_take (i := 3) (oi := ⟨some 89, _, _, _, _, _⟩) (v := ?_) rfl (by kernel_rfl) (by kernel_rfl) (by kernel_rfl) (fun _ _ _ h => h) (Or.inl ⟨by rfl, ?_⟩) (by assumption) ?_
        rotate_left
        · (intro w hSw; (try dsimp only at hSw); go_simp; try with_reducible rfl)
        simp only [Act.put, List.setIfInBounds_toArray, List.set_cons_zero, List.set_cons_succ]
        have fct := T7.out
        refine wpAnyH_take (i := 4) (oi := ⟨some 90, _, _, _, _, _⟩) (v := ?_) rfl (by kernel_rfl) (by kernel_rfl) (by kernel_rfl) (fun _ _ _ h => h) (Or.inl ⟨by rfl, ?_⟩) (by assumption) ?_
        rotate_left
        · (intro w hSw; (try dsimp only at hSw); go_simp; try with_reducible rfl)
        simp only [Act.put, List.setIfInBounds_toArray, List.set_cons_zero, List.set_cons_succ]
        clear fct
        refine wpAnyH_take (i := 5) (oi := ⟨some 91, _, _, _, _, _⟩) (v := ?_) rfl (by kernel_rfl) (by kernel_rfl) (by kernel_rfl) (fun _ _ _ h => h) (Or.inl ⟨by rfl, ?_⟩) (by assumption) ?_
        rotate_left
        · (intro w hSw; (try dsimp only at hSw); go_simp; try with_reducible rfl)
        simp only [Act.put, List.setIfInBounds_toArray, List.set_cons_zero, List.set_cons_succ]
        refine wpAnyH_take (i := 8) (oi := ⟨some 94, _, _, _, _, _⟩) (v := ?_) rfl (by kernel_rfl) (by kernel_rfl) (by kernel_rfl) (fun _ _ _ h => h) (Or.inl ⟨by rfl, ?_⟩) (by assumption) ?_
        rotate_left
        · (intro w hSw; (try dsimp only at hSw); go_simp; try with_reducible rfl)
        simp only [Act.put, List.setIfInBounds_toArray, List.set_cons_zero, List.set_cons_succ]
        refine wpAnyH_take (i := 10) (oi := ⟨some 96, _, _, _, _, _⟩) (v := ?_) rfl (by kernel_rfl) (by kernel_rfl) (by kernel_rfl) (fun _ _ _ h => h) (Or.inl ⟨by rfl, ?_⟩) (by assumption) ?_
        rotate_left
        · (intro w hSw; (try dsimp only at hSw); go_simp; try with_reducible rfl)
        simp only [Act.put, List.setIfInBounds_toArray, List.set_cons_zero, List.set_cons_succ]
        refine wpAnyH_take (i := 11) (oi := ⟨some 97, _, _, _, _, _⟩) (v := ?_) rfl (by kernel_rfl) (by kernel_rfl) (by kernel_rfl) (fun _ _ _ h => h) (Or.inl ⟨by rfl, ?_⟩) (by assumption) ?_
        rotate_left
        · (intro w hSw; (try dsimp only at hSw); go_simp; try with_reducible rfl)
        simp only [Act.put, List.setIfInBounds_toArray, List.set_cons_zero, List.set_cons_succ]
        have fct := T16.out
        refine wpAnyH_take (i := 12) (oi := ⟨some 98, _, _, _, _, _⟩) (v := ?_) rfl (by kernel_rfl) (by kernel_rfl) (by kernel_rfl) (fun _ _ _ h => h) (Or.inl ⟨by rfl, ?_⟩) (by assumption) ?_
        rotate_left
        · (intro w hSw; (try dsimp only at hSw); go_simp; try with_reducible rfl)
        simp only [Act.put, List.setIfInBounds_toArray, List.set_cons_zero, List.set_cons_succ]
        clear fct
        refine wpAnyH_take (i := 13) (oi := ⟨some 99, _, _, _, _, _⟩) (v := ?_) rfl (by kernel_rfl) (by kernel_rfl) (by kernel_rfl) (fun _ _ _ h => h) (Or.inl ⟨by rfl, ?_⟩) (by assumption) ?_
        rotate_left
        · (intro w hSw; (try dsimp only at hSw); go_simp; try with_reducible rfl)
        simp only [Act.put, List.setIfInBounds_toArray, List.set_cons_zero, List.set_cons_succ]
        refine wpAnyH_ready (rs := [6, 14]) (by kernel_rfl) (by simp) ?_
        refine AllReadyH.cons (o := ⟨some 92, _, _, _, _, _⟩) rfl (fun K hK => ?_) (AllReadyH.cons (o := ⟨some 100, _, _, _, _, _⟩) rfl (fun K hK => ?_) AllReadyH.nil)
        · go_simp
          refine hK.out _ _ hb2.drew (fun hHeldx => ?_)
          clear hK K hHeldx
          have fct := V1.out
          refine wpAnyH_take (i := 7) (oi := ⟨some 93, _, _, _, _, _⟩) (v := ?_) rfl (by kernel_rfl) (by kernel_rfl) (by kernel_rfl) (fun _ _ _ h => h) (Or.inl ⟨by rfl, ?_⟩) (by assumption) ?_
          rotate_left
          · (intro w hSw; (try dsimp only at hSw); go_simp; try with_reducible rfl)
          simp only [Act.put, List.setIfInBounds_toArray, List.set_cons_zero, List.set_cons_succ]
          clear fct
          have fct := V2.out
          refine wpAnyH_take (i := 9) (oi := ⟨some 95, _, _, _, _, _⟩) (v := ?_) rfl (by kernel_rfl) (by kernel_rfl) (by kernel_rfl) (fun _ _ _ h => h) (Or.inl ⟨by rfl, ?_⟩) (by assumption) ?_
          rotate_left
          · (intro w hSw; (try dsimp only at hSw); go_simp; try with_reducible rfl)
          simp only [Act.put, List.setIfInBounds_toArray, List.set_cons_zero, List.set_cons_succ]
          clear fct
          refine wpAnyH_ready (rs := [14]) (by kernel_rfl) (by simp) ?_
          refine AllReadyH.cons (o := ⟨some 100, _, _, _, _, _⟩) rfl (fun K hK => ?_) AllReadyH.nil
          go_simp
          refine hK.out _ _ hb2.drew (fun hHeldx => ?_)
          clear hK K hHeldx
          have fct := V3.out
          refine wpAnyH_take (i := 15) (oi := ⟨some 101, _, _, _, _, _⟩) (v := ?_) rfl (by kernel_rfl) (by kernel_rfl) (by kernel_rfl) (fun _ _ _ h => h) (Or.inl ⟨by rfl, ?_⟩) (by assumption) ?_
          rotate_left
          · (intro w hSw; (try dsimp only at hSw); go_simp; try with_reducible rfl)
          simp only [Act.put, List.setIfInBounds_toArray, List.set_cons_zero, List.set_cons_succ]
          clear fct
          refine wpAnyH_ready (rs := [16]) (by kernel_rfl) (by simp) ?_
          refine AllReadyH.cons (o := ⟨some 102, _, _, _, _, _⟩) rfl (fun K hK => ?_) AllReadyH.nil
          go_simp
          refine hK.out _ _ ?_ (fun hHeld2 => ?_)
          · exact (hb2.drew.alloc hb2.size _)
          clear hK K
          have hz := HZ.out
          have hkl := HKL.out
          refine wpAnyH_ready (rs := [17]) (by kernel_rfl) (by simp) ?_
          refine AllReadyH.cons (o := ⟨some 103, _, _, _, _, _⟩) rfl (fun K hK => ?_) AllReadyH.nil
          refine step_append_lies _ (by rfl) _ _ _ (by rfl) w.heap.size 79 i0 (.int .u32 0) 1 4 Tryz.underlying76 hi hz0 hz1 hz2 rfl (by omega) (.slice (some ⟨g, 0, none⟩) k c) k ((sched B k).map wv) (by rfl) (own_alloc HO2.out (.cells #[.int .u32 (x : Int)] 79)) ⟨w2.heap.size, 0, none⟩ 1 1 [.int .u32 (x : Int)] (by rfl) rfl (World.news_of_block (cs := #[.int .u32 (x : Int)]) (t := 79) (fr := (0, 0)) (heap_alloc_new w2 _)) (by simp [Value.oneCell']) (by omega) (by unfold maxLen; omega) (by omega) (by simp; omega) (w2.heap.size + 1) (by simp) ?_
          intro gg cap w3 hown3 hgrow hat hlt3
          simp only [Act.put, List.setIfInBounds_toArray, List.set_cons_zero, List.set_cons_succ]
          have hB3 : Below w.heap.size w w3 := ((hb2.alloc hb2.size (.cells #[.int .u32 (x : Int)] 79)).drew).grown hgrow (by simp; omega) (fun r e => (HO2.out.lt r e).1)
          refine hK.out _ _ hB3 (fun hHeld3 => ?_)
          clear hK K
          refine wpAnyH_take (i := 18) (oi := ⟨some 3, _, _, _, _, _⟩) (v := ?_) rfl (by kernel_rfl) (by kernel_rfl) (by kernel_rfl) (fun _ _ _ h => h) (Or.inl ⟨by rfl, ?_⟩) (by assumption) ?_
          rotate_left
          · (intro w hSw; (try dsimp only at hSw); go_simp; try with_reducible rfl)
          simp only [Act.put, List.setIfInBounds_toArray, List.set_cons_zero, List.set_cons_succ]
          refine wpAnyH_done (by kernel_rfl) ?_ _
          have HO3 : Hid (w3.ownsRow w.heap.size 79 1 (.slice (some ⟨gg, 0, none⟩) (k + 1) cap) (k + 1) ((sched B (k + 1)).map wv)) := Lib.hid (by rw [HS.out, List.map_append]; exact hown3)
          clear hown3 hgrow hat hHeld hHeld2 hHeld3 d7 d16
          go_wp2_with fail
          exact ⟨⟨k + 1, gg, cap, by omega, by go_num, rfl, HO3, hB3⟩, by simp [intOf]; omega⟩
        · go_simp
          refine hK.out _ _ hb2.drew (fun hHeldx => ?_)
          clear hK K hHeldx
          refine wpAnyH_ready (rs := [6]) (by kernel_rfl) (by simp) ?_
          refine AllReadyH.cons (o := ⟨some 92, _, _, _, _, _⟩) rfl (fun K hK => ?_) AllReadyH.nil
          go_simp
          refine hK.out _ _ hb2.drew (fun hHeldx => ?_)
          clear hK K hHeldx
          have fct := V1.out
          refine wpAnyH_take (i := 7) (oi := ⟨some 93, _, _, _, _, _⟩) (v := ?_) rfl (by kernel_rfl) (by kernel_rfl) (by kernel_rfl) (fun _ _ _ h => h) (Or.inl ⟨by rfl, ?_⟩) (by assumption) ?_
          rotate_left
          · (intro w hSw; (try dsimp only at hSw); go_simp; try with_reducible rfl)
          simp only [Act.put, List.setIfInBounds_toArray, List.set_cons_zero, List.set_cons_succ]
          clear fct
          have fct := V2.out
          refine wpAnyH_take (i := 9) (oi := ⟨some 95, _, _, _, _, _⟩) (v := ?_) rfl (by kernel_rfl) (by kernel_rfl) (by kernel_rfl) (fun _ _ _ h => h) (Or.inl ⟨by rfl, ?_⟩) (by assumption) ?_
          rotate_left
          · (intro w hSw; (try dsimp only at hSw); go_simp; try with_reducible rfl)
          simp only [Act.put, List.setIfInBounds_toArray, List.set_cons_zero, List.set_cons_succ]
          clear fct
          have fct := V3.out
          refine wpAnyH_take (i := 15) (oi := ⟨some 101, _, _, _, _, _⟩) (v := ?_) rfl (by kernel_rfl) (by kernel_rfl) (by kernel_rfl) (fun _ _ _ h => h) (Or.inl ⟨by rfl, ?_⟩) (by assumption) ?_
          rotate_left
          · (intro w hSw; (try dsimp only at hSw); go_simp; try with_reducible rfl)
          simp only [Act.put, List.setIfInBounds_toArray, List.set_cons_zero, List.set_cons_succ]
          clear fct
          refine wpAnyH_ready (rs := [16]) (by kernel_rfl) (by simp) ?_
          refine AllReadyH.cons (o := ⟨some 102, _, _, _, _, _⟩) rfl (fun K hK => ?_) AllReadyH.nil
          go_simp
          refine hK.out _ _ ?_ (fun hHeld2 => ?_)
          · exact (hb2.drew.alloc hb2.size _)
          clear hK K
          have hz := HZ.out
          have hkl := HKL.out
          refine wpAnyH_ready (rs := [17]) (by kernel_rfl) (by simp) ?_
          refine AllReadyH.cons (o := ⟨some 103, _, _, _, _, _⟩) rfl (fun K hK => ?_) AllReadyH.nil
          refine step_append_lies _ (by rfl) _ _ _ (by rfl) w.heap.size 79 i0 (.int .u32 0) 1 4 Tryz.underlying76 hi hz0 hz1 hz2 rfl (by omega) (.slice (some ⟨g, 0, none⟩) k c) k ((sched B k).map wv) (by rfl) (own_alloc HO2.out (.cells #[.int .u32 (x : Int)] 79)) ⟨w2.heap.size, 0, none⟩ 1 1 [.int .u32 (x : Int)] (by rfl) rfl (World.news_of_block (cs := #[.int .u32 (x : Int)]) (t := 79) (fr := (0, 0)) (heap_alloc_new w2 _)) (by simp [Value.oneCell']) (by omega) (by unfold maxLen; omega) (by omega) (by simp; omega) (w2.heap.size + 1) (by simp) ?_
          intro gg cap w3 hown3 hgrow hat hlt3
          simp only [Act.put, List.setIfInBounds_toArray, List.set_cons_zero, List.set_cons_succ]
          have hB3 : Below w.heap.size w w3 := ((hb2.alloc hb2.size (.cells #[.int .u32 (x : Int)] 79)).drew).grown hgrow (by simp; omega) (fun r e => (HO2.out.lt r e).1)
          refine hK.out _ _ hB3 (fun hHeld3 => ?_)
          clear hK K
          refine wpAnyH_take (i := 18) (oi := ⟨some 3, _, _, _, _, _⟩) (v := ?_) rfl (by kernel_rfl) (by kernel_rfl) (by kernel_rfl) (fun _ _ _ h => h) (Or.inl ⟨by rfl, ?_⟩) (by assumption) ?_
          rotate_left
          · (intro w hSw; (try dsimp only at hSw); go_simp; try with_reducible rfl)
          simp only [Act.put, List.setIfInBounds_toArray, List.set_cons_zero, List.set_cons_succ]
          refine wpAnyH_done (by kernel_rfl) ?_ _
          have HO3 : Hid (w3.ownsRow w.heap.size 79 1 (.slice (some ⟨gg, 0, none⟩) (k + 1) cap) (k + 1) ((sched B (k + 1)).map wv)) := Lib.hid (by rw [HS.out, List.map_append]; exact hown3)
          clear hown3 hgrow hat hHeld hHeld2 hHeld3 d7 d16
          go_wp2_with fail
          exact ⟨⟨k + 1, gg, cap, by omega, by go_num, rfl, HO3, hB3⟩, by simp [intOf]; omega⟩
    · obtain rfl : k = 64 := by omega
      go_wp2_with fail
      go_ret
      exact ⟨g, c, rfl, HO.out, hb⟩
end Go.Proofs.YtjonhenllhnibaaGreatDoor
/- The reference's words, of any block. -/
namespace Go.Proofs.YtjonhenllhnibaaGreatDoor

theorem rwords_holds : RWords := fun b w hb => (words_any b hb w).mono fun _ _ ⟨g, c, he, ho, hbl⟩ => ⟨g, c, he, fun _ hj => own_wn ho (sched_len b 64) hj, hbl⟩

end Go.Proofs.YtjonhenllhnibaaGreatDoor
