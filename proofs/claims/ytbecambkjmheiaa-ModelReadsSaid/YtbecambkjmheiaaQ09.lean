/- Texts of this seat, one behind the other: NRight, NCheck. -/
import Derived.Test.YtbecambkjmheiaaQ07
import Derived.Test.YtbecambkjmheiaaQ08
/- The contract of Right. -/
namespace Go.Proofs.Ytbecambkjmheiaa
open Go.RowKit

set_option maxRecDepth 100000 in
set_option maxHeartbeats 4000000 in
theorem nright_any (A : Option Addr) (n c : Nat) (L : List CL) (w : World) (hA : CR w A L) (hl : L.length = n) (hn : n ≤ 65536) :
    Calls Try.prog 14 #[.slice A n c] w fun e w' => e = .returned (.bool (decide (CRt L))) ∧ Below w.heap.size w w' := by
  by_cases h64 : n ≤ 64
  · have HA := Lib.hid hA
    have HV : Hid (∀ j, j < n → ¬ COk (L.getD j default) → decide (CRt L) = false) := Lib.hid fun j hj h => decide_eq_false fun hr => h (hr.2.1 j (by omega))
    have HK : Hid (∀ j, j + 1 < n → ¬ (L.getD j default).n < (L.getD (j + 1) default).n → decide (CRt L) = false) := Lib.hid fun j hj h => decide_eq_false fun hr => h (by have := hr.2.2 (j + 1) (by omega) (by omega); rwa [Nat.add_sub_cancel] at this)
    have HY : Hid ((∀ j, j < n → COk (L.getD j default)) → (∀ j, j < n → 0 < j → (L.getD (j - 1) default).n < (L.getD j default).n) → decide (CRt L) = true) := Lib.hid fun a b => decide_eq_true ⟨by omega, fun j hj => a j (by omega), fun j hj => b j (by omega)⟩
    have HL := Lib.hid hl
    generalize decide (CRt L) = R at HV HK HY ⊢
    clear hA hl
    go_enter Try.func14, Try.ntmps14
    go_wp2_with fail
    go_loopw [10] (fun iv wr => ∃ k : Nat, k ≤ n ∧ iv = .int .i64 k ∧ Hid (∀ j, j < k → COk (L.getD j default)) ∧ Hid (∀ j, j < k → 0 < j → (L.getD (j - 1) default).n < (L.getD j default).n) ∧ Below w.heap.size w wr) (fun i _ => n - (intOf i).toNat)
    case atStart => exact ⟨0, Nat.zero_le _, rfl, Lib.hid (fun j hj => by omega), Lib.hid (fun j hj => by omega), Below.refl _ _⟩
    case round =>
      obtain ⟨k, hk, rfl, HJ, HJ2, hb⟩ := hrel
      by_cases hlt : k < n
      · obtain ⟨g, off, rfl, c0, c1, c2⟩ := (HA.out.later hb) k (by rw [HL.out]; exact hlt)
        have HV1 := Lib.hid (HV.out k hlt)
        have i0 : (0 : Int) ≤ (k : Int) := by omega
        have i1 : (k : Int) < (n : Int) := by omega
        have HJ1 : Hid (COk (L.getD k default) → ∀ j, j < k + 1 → COk (L.getD j default)) := Lib.hid fun h j hj => by
          by_cases e : j = k
          · rw [e]; exact h
          · exact HJ.out j (by omega)
        rcases Nat.eq_zero_or_pos k with rfl | hk0
        · have HJ3 : Hid (∀ j, j < 0 + 1 → 0 < j → (L.getD (j - 1) default).n < (L.getD j default).n) := Lib.hid fun j hj h0 => by omega
          generalize L.getD 0 default = x at *
          simp only [Nat.zero_mul, Nat.add_zero] at c0 c1 c2
          have HF := Lib.hid (fun W => nmay_any x W)
          have d0 : decide ((0 : Int) < 0) = false := by simp
          by_cases hx : COk x
          · rw [decide_eq_true hx] at HF
            go_wp2_with fail
            have HB0 : Hid (Below w.heap.size w (wr.alloc (.cells #[vu x.n, .int .i64 x.s, sv x.d] 45))) := Lib.hid (ba hb _)
            have a0 : (wr.alloc (.cells #[vu x.n, .int .i64 x.s, sv x.d] 45)).cell? ⟨wr.heap.size, 0, none⟩ = some (vu x.n) := (Blk.new wr 45 #[vu x.n, .int .i64 x.s, sv x.d]).cell 0
            have a1 : (wr.alloc (.cells #[vu x.n, .int .i64 x.s, sv x.d] 45)).cell? ⟨wr.heap.size, 1, none⟩ = some (.int .i64 x.s) := (Blk.new wr 45 #[vu x.n, .int .i64 x.s, sv x.d]).cell 1
            have a2 : (wr.alloc (.cells #[vu x.n, .int .i64 x.s, sv x.d] 45)).cell? ⟨wr.heap.size, 2, none⟩ = some (sv x.d) := (Blk.new wr 45 #[vu x.n, .int .i64 x.s, sv x.d]).cell 2
            generalize wr.alloc (.cells #[vu x.n, .int .i64 x.s, sv x.d] 45) = W0 at HB0 a0 a1 a2 ⊢
            refine wp_region_held_drew (S := fun W => W.cell? ⟨wr.heap.size, 0, none⟩ = some (vu x.n) ∧ W.cell? ⟨wr.heap.size, 1, none⟩ = some (.int .i64 x.s) ∧ W.cell? ⟨wr.heap.size, 2, none⟩ = some (sv x.d) ∧ Below W0.heap.size W0 W) (by kernel_rfl) ⟨a0, a1, a2, (Below.refl _ _).drew⟩ (fun hHeld => ?_)
            refine wpAnyH_take (i := 0) (oi := ⟨some 15, _, _, _, _, _⟩) (v := cv x) rfl (by kernel_rfl) (by kernel_rfl) (by kernel_rfl) (fun _ _ _ h => h) (Or.inl ⟨by rfl, ?_⟩) (by assumption) ?_
            · (intro w9 hSw; obtain ⟨q0, q1, q2, _⟩ := hSw; (try dsimp only at hSw); go_simp; try with_reducible rfl)
            try simp only [Act.put, List.setIfInBounds_toArray, List.set_cons_zero, List.set_cons_succ]
            refine wpAnyH_ready (rs := [1]) (by kernel_rfl) (by simp) ?_
            refine AllReadyH.cons (o := ⟨some 16, _, _, _, _, _⟩) rfl (fun K9 hK9 => ?_) AllReadyH.nil
            go_simp; go_at_call 37
            refine (HF.out _).mono ?_
            rintro e w1 ⟨rfl, hb1⟩
            have hb1S : w1.cell? ⟨wr.heap.size, 0, none⟩ = some (vu x.n) ∧ w1.cell? ⟨wr.heap.size, 1, none⟩ = some (.int .i64 x.s) ∧ w1.cell? ⟨wr.heap.size, 2, none⟩ = some (sv x.d) ∧ Below W0.heap.size W0 w1 := ⟨cell_later hb1 a0, cell_later hb1 a1, cell_later hb1 a2, bt ((Below.refl _ _).drew) hb1⟩
            refine hK9.out _ _ ?_ (fun hHeld => ?_)
            · exact hb1S
            clear hK9 K9
            try simp only [Act.put, List.setIfInBounds_toArray, List.set_cons_zero, List.set_cons_succ]
            refine wpAnyH_take (i := 2) (oi := ⟨some 17, _, _, _, _, _⟩) (v := ?_) rfl (by kernel_rfl) (by kernel_rfl) (by kernel_rfl) (fun _ _ _ h => h) (Or.inl ⟨by rfl, ?_⟩) (by assumption) ?_
            rotate_left
            · (intro w9 hSw; (try dsimp only at hSw); go_simp; try with_reducible rfl)
            try simp only [Act.put, List.setIfInBounds_toArray, List.set_cons_zero, List.set_cons_succ]
            refine wpAnyH_take (i := 3) (oi := ⟨some 18, _, _, _, _, _⟩) (v := ?_) rfl (by kernel_rfl) (by kernel_rfl) (by kernel_rfl) (fun _ _ _ h => h) (Or.inl ⟨by rfl, ?_⟩) (by assumption) ?_
            rotate_left
            · (intro w9 hSw; (try dsimp only at hSw); go_simp; try with_reducible rfl)
            try simp only [Act.put, List.setIfInBounds_toArray, List.set_cons_zero, List.set_cons_succ]
            refine wpAnyH_take (i := 4) (oi := ⟨some 19, _, _, _, _, _⟩) (v := ?_) rfl (by kernel_rfl) (by kernel_rfl) (by kernel_rfl) (fun _ _ _ h => h) (Or.inl ⟨by rfl, ?_⟩) (by assumption) ?_
            rotate_left
            · (intro w9 hSw; (try dsimp only at hSw); go_simp; try with_reducible rfl)
            try simp only [Act.put, List.setIfInBounds_toArray, List.set_cons_zero, List.set_cons_succ]
            refine wpAnyH_take (i := 5) (oi := ⟨some 20, _, _, _, _, _⟩) (v := ?_) rfl (by kernel_rfl) (by kernel_rfl) (by kernel_rfl) (fun _ _ _ h => h) (Or.inl ⟨by rfl, ?_⟩) (by assumption) ?_
            rotate_left
            · (intro w9 hSw; (try dsimp only at hSw); go_simp; try with_reducible rfl)
            try simp only [Act.put, List.setIfInBounds_toArray, List.set_cons_zero, List.set_cons_succ]
            refine wpAnyH_take (i := 6) (oi := ⟨some 21, _, _, _, _, _⟩) (v := ?_) rfl (by kernel_rfl) (by kernel_rfl) (by kernel_rfl) (fun _ _ _ h => h) (Or.inl ⟨by rfl, ?_⟩) (by assumption) ?_
            rotate_left
            · (intro w9 hSw; (try dsimp only at hSw); go_simp; try with_reducible rfl)
            try simp only [Act.put, List.setIfInBounds_toArray, List.set_cons_zero, List.set_cons_succ]
            refine wpAnyH_take (i := 7) (oi := ⟨some 22, _, _, _, _, _⟩) (v := undef) rfl (by kernel_rfl) (by kernel_rfl) (by kernel_rfl) (fun _ _ _ h => h) (Or.inr ⟨by rfl, rfl⟩) (by assumption) ?_
            try simp only [Act.put, List.setIfInBounds_toArray, List.set_cons_zero, List.set_cons_succ]
            refine wpAnyH_take (i := 8) (oi := ⟨some 23, _, _, _, _, _⟩) (v := undef) rfl (by kernel_rfl) (by kernel_rfl) (by kernel_rfl) (fun _ _ _ h => h) (Or.inr ⟨by rfl, rfl⟩) (by assumption) ?_
            try simp only [Act.put, List.setIfInBounds_toArray, List.set_cons_zero, List.set_cons_succ]
            refine wpAnyH_take (i := 9) (oi := ⟨some 24, _, _, _, _, _⟩) (v := undef) rfl (by kernel_rfl) (by kernel_rfl) (by kernel_rfl) (fun _ _ _ h => h) (Or.inr ⟨by rfl, rfl⟩) (by assumption) ?_
            try simp only [Act.put, List.setIfInBounds_toArray, List.set_cons_zero, List.set_cons_succ]
            refine wpAnyH_take (i := 10) (oi := ⟨some 25, _, _, _, _, _⟩) (v := undef) rfl (by kernel_rfl) (by kernel_rfl) (by kernel_rfl) (fun _ _ _ h => h) (Or.inr ⟨by rfl, rfl⟩) (by assumption) ?_
            try simp only [Act.put, List.setIfInBounds_toArray, List.set_cons_zero, List.set_cons_succ]
            refine wpAnyH_take (i := 11) (oi := ⟨some 26, _, _, _, _, _⟩) (v := undef) rfl (by kernel_rfl) (by kernel_rfl) (by kernel_rfl) (fun _ _ _ h => h) (Or.inr ⟨by rfl, rfl⟩) (by assumption) ?_
            try simp only [Act.put, List.setIfInBounds_toArray, List.set_cons_zero, List.set_cons_succ]
            refine wpAnyH_take (i := 12) (oi := ⟨some 27, _, _, _, _, _⟩) (v := undef) rfl (by kernel_rfl) (by kernel_rfl) (by kernel_rfl) (fun _ _ _ h => h) (Or.inr ⟨by rfl, rfl⟩) (by assumption) ?_
            try simp only [Act.put, List.setIfInBounds_toArray, List.set_cons_zero, List.set_cons_succ]
            refine wpAnyH_take (i := 13) (oi := ⟨some 28, _, _, _, _, _⟩) (v := undef) rfl (by kernel_rfl) (by kernel_rfl) (by kernel_rfl) (fun _ _ _ h => h) (Or.inr ⟨by rfl, rfl⟩) (by assumption) ?_
            try simp only [Act.put, List.setIfInBounds_toArray, List.set_cons_zero, List.set_cons_succ]
            refine wpAnyH_take (i := 14) (oi := ⟨some 29, _, _, _, _, _⟩) (v := undef) rfl (by kernel_rfl) (by kernel_rfl) (by kernel_rfl) (fun _ _ _ h => h) (Or.inr ⟨by rfl, rfl⟩) (by assumption) ?_
            try simp only [Act.put, List.setIfInBounds_toArray, List.set_cons_zero, List.set_cons_succ]
            refine wpAnyH_take (i := 15) (oi := ⟨some 30, _, _, _, _, _⟩) (v := undef) rfl (by kernel_rfl) (by kernel_rfl) (by kernel_rfl) (fun _ _ _ h => h) (Or.inr ⟨by rfl, rfl⟩) (by assumption) ?_
            try simp only [Act.put, List.setIfInBounds_toArray, List.set_cons_zero, List.set_cons_succ]
            refine wpAnyH_take (i := 16) (oi := ⟨some 31, _, _, _, _, _⟩) (v := ?_) rfl (by kernel_rfl) (by kernel_rfl) (by kernel_rfl) (fun _ _ _ h => h) (Or.inl ⟨by rfl, ?_⟩) (by assumption) ?_
            rotate_left
            · (intro w9 hSw; (try dsimp only at hSw); go_simp; try with_reducible rfl)
            try simp only [Act.put, List.setIfInBounds_toArray, List.set_cons_zero, List.set_cons_succ]
            refine wpAnyH_take (i := 17) (oi := ⟨some 32, _, _, _, _, _⟩) (v := ?_) rfl (by kernel_rfl) (by kernel_rfl) (by kernel_rfl) (fun _ _ _ h => h) (Or.inl ⟨by rfl, ?_⟩) (by assumption) ?_
            rotate_left
            · (intro w9 hSw; (try dsimp only at hSw); go_simp; try with_reducible rfl)
            try simp only [Act.put, List.setIfInBounds_toArray, List.set_cons_zero, List.set_cons_succ]
            refine wpAnyH_done (by kernel_rfl) ?_ _
            obtain ⟨_, _, _, hbz⟩ := hb1S
            go_wp2
            exact ⟨⟨1, by omega, by go_num, Lib.hid (HJ1.out hx), HJ3, bt HB0.out hbz⟩, by simp [intOf]; omega⟩
          · rw [decide_eq_false hx] at HF
            have HR := Lib.hid (HV1.out hx)
            go_wp2_with fail
            have HB0 : Hid (Below w.heap.size w (wr.alloc (.cells #[vu x.n, .int .i64 x.s, sv x.d] 45))) := Lib.hid (ba hb _)
            have a0 : (wr.alloc (.cells #[vu x.n, .int .i64 x.s, sv x.d] 45)).cell? ⟨wr.heap.size, 0, none⟩ = some (vu x.n) := (Blk.new wr 45 #[vu x.n, .int .i64 x.s, sv x.d]).cell 0
            have a1 : (wr.alloc (.cells #[vu x.n, .int .i64 x.s, sv x.d] 45)).cell? ⟨wr.heap.size, 1, none⟩ = some (.int .i64 x.s) := (Blk.new wr 45 #[vu x.n, .int .i64 x.s, sv x.d]).cell 1
            have a2 : (wr.alloc (.cells #[vu x.n, .int .i64 x.s, sv x.d] 45)).cell? ⟨wr.heap.size, 2, none⟩ = some (sv x.d) := (Blk.new wr 45 #[vu x.n, .int .i64 x.s, sv x.d]).cell 2
            generalize wr.alloc (.cells #[vu x.n, .int .i64 x.s, sv x.d] 45) = W0 at HB0 a0 a1 a2 ⊢
            refine wp_region_held_drew (S := fun W => W.cell? ⟨wr.heap.size, 0, none⟩ = some (vu x.n) ∧ W.cell? ⟨wr.heap.size, 1, none⟩ = some (.int .i64 x.s) ∧ W.cell? ⟨wr.heap.size, 2, none⟩ = some (sv x.d) ∧ Below W0.heap.size W0 W) (by kernel_rfl) ⟨a0, a1, a2, (Below.refl _ _).drew⟩ (fun hHeld => ?_)
            refine wpAnyH_take (i := 0) (oi := ⟨some 15, _, _, _, _, _⟩) (v := cv x) rfl (by kernel_rfl) (by kernel_rfl) (by kernel_rfl) (fun _ _ _ h => h) (Or.inl ⟨by rfl, ?_⟩) (by assumption) ?_
            · (intro w9 hSw; obtain ⟨q0, q1, q2, _⟩ := hSw; (try dsimp only at hSw); go_simp; try with_reducible rfl)
            try simp only [Act.put, List.setIfInBounds_toArray, List.set_cons_zero, List.set_cons_succ]
            refine wpAnyH_ready (rs := [1]) (by kernel_rfl) (by simp) ?_
            refine AllReadyH.cons (o := ⟨some 16, _, _, _, _, _⟩) rfl (fun K9 hK9 => ?_) AllReadyH.nil
            go_simp; go_at_call 37
            refine (HF.out _).mono ?_
            rintro e w1 ⟨rfl, hb1⟩
            have hb1S : w1.cell? ⟨wr.heap.size, 0, none⟩ = some (vu x.n) ∧ w1.cell? ⟨wr.heap.size, 1, none⟩ = some (.int .i64 x.s) ∧ w1.cell? ⟨wr.heap.size, 2, none⟩ = some (sv x.d) ∧ Below W0.heap.size W0 w1 := ⟨cell_later hb1 a0, cell_later hb1 a1, cell_later hb1 a2, bt ((Below.refl _ _).drew) hb1⟩
            refine hK9.out _ _ ?_ (fun hHeld => ?_)
            · exact hb1S
            clear hK9 K9
            try simp only [Act.put, List.setIfInBounds_toArray, List.set_cons_zero, List.set_cons_succ]
            refine wpAnyH_take (i := 2) (oi := ⟨some 17, _, _, _, _, _⟩) (v := ?_) rfl (by kernel_rfl) (by kernel_rfl) (by kernel_rfl) (fun _ _ _ h => h) (Or.inl ⟨by rfl, ?_⟩) (by assumption) ?_
            rotate_left
            · (intro w9 hSw; (try dsimp only at hSw); go_simp; try with_reducible rfl)
            try simp only [Act.put, List.setIfInBounds_toArray, List.set_cons_zero, List.set_cons_succ]
            refine wpAnyH_take (i := 3) (oi := ⟨some 18, _, _, _, _, _⟩) (v := ?_) rfl (by kernel_rfl) (by kernel_rfl) (by kernel_rfl) (fun _ _ _ h => h) (Or.inl ⟨by rfl, ?_⟩) (by assumption) ?_
            rotate_left
            · (intro w9 hSw; (try dsimp only at hSw); go_simp; try with_reducible rfl)
            try simp only [Act.put, List.setIfInBounds_toArray, List.set_cons_zero, List.set_cons_succ]
            refine wpAnyH_take (i := 4) (oi := ⟨some 19, _, _, _, _, _⟩) (v := undef) rfl (by kernel_rfl) (by kernel_rfl) (by kernel_rfl) (fun _ _ _ h => h) (Or.inr ⟨by rfl, rfl⟩) (by assumption) ?_
            try simp only [Act.put, List.setIfInBounds_toArray, List.set_cons_zero, List.set_cons_succ]
            refine wpAnyH_take (i := 5) (oi := ⟨some 20, _, _, _, _, _⟩) (v := undef) rfl (by kernel_rfl) (by kernel_rfl) (by kernel_rfl) (fun _ _ _ h => h) (Or.inr ⟨by rfl, rfl⟩) (by assumption) ?_
            try simp only [Act.put, List.setIfInBounds_toArray, List.set_cons_zero, List.set_cons_succ]
            refine wpAnyH_take (i := 6) (oi := ⟨some 21, _, _, _, _, _⟩) (v := undef) rfl (by kernel_rfl) (by kernel_rfl) (by kernel_rfl) (fun _ _ _ h => h) (Or.inr ⟨by rfl, rfl⟩) (by assumption) ?_
            try simp only [Act.put, List.setIfInBounds_toArray, List.set_cons_zero, List.set_cons_succ]
            refine wpAnyH_take (i := 7) (oi := ⟨some 22, _, _, _, _, _⟩) (v := undef) rfl (by kernel_rfl) (by kernel_rfl) (by kernel_rfl) (fun _ _ _ h => h) (Or.inr ⟨by rfl, rfl⟩) (by assumption) ?_
            try simp only [Act.put, List.setIfInBounds_toArray, List.set_cons_zero, List.set_cons_succ]
            refine wpAnyH_take (i := 8) (oi := ⟨some 23, _, _, _, _, _⟩) (v := undef) rfl (by kernel_rfl) (by kernel_rfl) (by kernel_rfl) (fun _ _ _ h => h) (Or.inr ⟨by rfl, rfl⟩) (by assumption) ?_
            try simp only [Act.put, List.setIfInBounds_toArray, List.set_cons_zero, List.set_cons_succ]
            refine wpAnyH_take (i := 9) (oi := ⟨some 24, _, _, _, _, _⟩) (v := undef) rfl (by kernel_rfl) (by kernel_rfl) (by kernel_rfl) (fun _ _ _ h => h) (Or.inr ⟨by rfl, rfl⟩) (by assumption) ?_
            try simp only [Act.put, List.setIfInBounds_toArray, List.set_cons_zero, List.set_cons_succ]
            refine wpAnyH_take (i := 10) (oi := ⟨some 25, _, _, _, _, _⟩) (v := undef) rfl (by kernel_rfl) (by kernel_rfl) (by kernel_rfl) (fun _ _ _ h => h) (Or.inr ⟨by rfl, rfl⟩) (by assumption) ?_
            try simp only [Act.put, List.setIfInBounds_toArray, List.set_cons_zero, List.set_cons_succ]
            refine wpAnyH_take (i := 11) (oi := ⟨some 26, _, _, _, _, _⟩) (v := undef) rfl (by kernel_rfl) (by kernel_rfl) (by kernel_rfl) (fun _ _ _ h => h) (Or.inr ⟨by rfl, rfl⟩) (by assumption) ?_
            try simp only [Act.put, List.setIfInBounds_toArray, List.set_cons_zero, List.set_cons_succ]
            refine wpAnyH_take (i := 12) (oi := ⟨some 27, _, _, _, _, _⟩) (v := undef) rfl (by kernel_rfl) (by kernel_rfl) (by kernel_rfl) (fun _ _ _ h => h) (Or.inr ⟨by rfl, rfl⟩) (by assumption) ?_
            try simp only [Act.put, List.setIfInBounds_toArray, List.set_cons_zero, List.set_cons_succ]
            refine wpAnyH_take (i := 13) (oi := ⟨some 28, _, _, _, _, _⟩) (v := undef) rfl (by kernel_rfl) (by kernel_rfl) (by kernel_rfl) (fun _ _ _ h => h) (Or.inr ⟨by rfl, rfl⟩) (by assumption) ?_
            try simp only [Act.put, List.setIfInBounds_toArray, List.set_cons_zero, List.set_cons_succ]
            refine wpAnyH_take (i := 14) (oi := ⟨some 29, _, _, _, _, _⟩) (v := undef) rfl (by kernel_rfl) (by kernel_rfl) (by kernel_rfl) (fun _ _ _ h => h) (Or.inr ⟨by rfl, rfl⟩) (by assumption) ?_
            try simp only [Act.put, List.setIfInBounds_toArray, List.set_cons_zero, List.set_cons_succ]
            refine wpAnyH_take (i := 15) (oi := ⟨some 30, _, _, _, _, _⟩) (v := undef) rfl (by kernel_rfl) (by kernel_rfl) (by kernel_rfl) (fun _ _ _ h => h) (Or.inr ⟨by rfl, rfl⟩) (by assumption) ?_
            try simp only [Act.put, List.setIfInBounds_toArray, List.set_cons_zero, List.set_cons_succ]
            refine wpAnyH_take (i := 16) (oi := ⟨some 31, _, _, _, _, _⟩) (v := undef) rfl (by kernel_rfl) (by kernel_rfl) (by kernel_rfl) (fun _ _ _ h => h) (Or.inr ⟨by rfl, rfl⟩) (by assumption) ?_
            try simp only [Act.put, List.setIfInBounds_toArray, List.set_cons_zero, List.set_cons_succ]
            refine wpAnyH_take (i := 17) (oi := ⟨some 32, _, _, _, _, _⟩) (v := ?_) rfl (by kernel_rfl) (by kernel_rfl) (by kernel_rfl) (fun _ _ _ h => h) (Or.inl ⟨by rfl, ?_⟩) (by assumption) ?_
            rotate_left
            · (intro w9 hSw; (try dsimp only at hSw); go_simp; try with_reducible rfl)
            try simp only [Act.put, List.setIfInBounds_toArray, List.set_cons_zero, List.set_cons_succ]
            refine wpAnyH_done (by kernel_rfl) ?_ _
            obtain ⟨_, _, _, hbz⟩ := hb1S
            go_wp2
            go_ret
            rw [HR.out]
            exact ⟨rfl, bt HB0.out hbz⟩
        · obtain ⟨m, rfl⟩ : ∃ m, k = m + 1 := ⟨k - 1, by omega⟩
          obtain ⟨g', off', e, d0, d1, d2⟩ := (HA.out.later hb) m (by rw [HL.out]; omega)
          obtain ⟨rfl, rfl⟩ : g = g' ∧ off = off' := by injection e with e; injection e with e1 e2; exact ⟨e1, e2⟩
          have HK1 := Lib.hid (HK.out m (by omega))
          have HJ3 : Hid ((L.getD m default).n < (L.getD (m + 1) default).n → ∀ j, j < m + 1 + 1 → 0 < j → (L.getD (j - 1) default).n < (L.getD j default).n) := Lib.hid fun h j hj h0 => by
            by_cases e : j = m + 1
            · rw [e]; exact h
            · exact HJ2.out j (by omega) h0
          generalize L.getD (m + 1) default = x at *
          generalize L.getD m default = y at *
          have HF := Lib.hid (fun W => nmay_any x W)
          have e0 : IntKind.i64.wrap (((m + 1 : Nat) : Int) - 1) = (m : Int) := by rw [IntKind.wrap_i64]; omega
          have e1 : (0 : Int) < ((m + 1 : Nat) : Int) := by omega
          have e5 : IntKind.i64.wrap ((m : Int) + 1 - 1) = (m : Int) := by rw [IntKind.wrap_i64]; omega
          have e6 : (0 : Int) < (m : Int) + 1 := by omega
          have e7 : IntKind.i64.wrap (m : Int) = (m : Int) := by rw [IntKind.wrap_i64]; omega
          have e2 : (0 : Int) ≤ (m : Int) := by omega
          have e3 : (m : Int) < (n : Int) := by omega
          by_cases hx : COk x
          · rw [decide_eq_true hx] at HF
            by_cases hy : y.n < x.n
            · have hy1 : ¬ ((x.n : Int) ≤ (y.n : Int)) := by omega
              have hy2 : ¬ (x.n ≤ y.n) := by omega
              go_wp2_with fail
              have HB0 : Hid (Below w.heap.size w (wr.alloc (.cells #[vu x.n, .int .i64 x.s, sv x.d] 45))) := Lib.hid (ba hb _)
              have a0 : (wr.alloc (.cells #[vu x.n, .int .i64 x.s, sv x.d] 45)).cell? ⟨wr.heap.size, 0, none⟩ = some (vu x.n) := (Blk.new wr 45 #[vu x.n, .int .i64 x.s, sv x.d]).cell 0
              have a1 : (wr.alloc (.cells #[vu x.n, .int .i64 x.s, sv x.d] 45)).cell? ⟨wr.heap.size, 1, none⟩ = some (.int .i64 x.s) := (Blk.new wr 45 #[vu x.n, .int .i64 x.s, sv x.d]).cell 1
              have a2 : (wr.alloc (.cells #[vu x.n, .int .i64 x.s, sv x.d] 45)).cell? ⟨wr.heap.size, 2, none⟩ = some (sv x.d) := (Blk.new wr 45 #[vu x.n, .int .i64 x.s, sv x.d]).cell 2
              have b0 : (wr.alloc (.cells #[vu x.n, .int .i64 x.s, sv x.d] 45)).cell? ⟨g, off + m * 3, none⟩ = some (vu y.n) := cell_later (ba (Below.refl _ _) _) d0
              generalize wr.alloc (.cells #[vu x.n, .int .i64 x.s, sv x.d] 45) = W0 at HB0 a0 a1 a2 b0 ⊢
              go_region_held3 (fun W => W.cell? ⟨wr.heap.size, 0, none⟩ = some (vu x.n) ∧ W.cell? ⟨wr.heap.size, 1, none⟩ = some (.int .i64 x.s) ∧ W.cell? ⟨wr.heap.size, 2, none⟩ = some (sv x.d) ∧ W.cell? ⟨g, off + m * 3, none⟩ = some (vu y.n) ∧ Below W0.heap.size W0 W) (first | assumption | exact ⟨a0, a1, a2, b0, (Below.refl _ _).drew⟩) (first | (go_at_call 37; refine (HF.out _).mono ?_; rintro e w1 ⟨rfl, hb1⟩; have hb1S : w1.cell? ⟨wr.heap.size, 0, none⟩ = some (vu x.n) ∧ w1.cell? ⟨wr.heap.size, 1, none⟩ = some (.int .i64 x.s) ∧ w1.cell? ⟨wr.heap.size, 2, none⟩ = some (sv x.d) ∧ w1.cell? ⟨g, off + m * 3, none⟩ = some (vu y.n) ∧ Below W0.heap.size W0 w1 := ⟨cell_later hb1 a0, cell_later hb1 a1, cell_later hb1 a2, cell_later hb1 b0, bt ((Below.refl _ _).drew) hb1⟩))
              obtain ⟨_, _, _, _, hbz⟩ := hb1S
              go_wp2
              exact ⟨⟨m + 1 + 1, by omega, by go_num, Lib.hid (HJ1.out hx), Lib.hid (HJ3.out hy), bt HB0.out hbz⟩, by simp [intOf]; omega⟩
            · have HR := Lib.hid (HK1.out hy)
              have hy1 : ((x.n : Int) ≤ (y.n : Int)) := by omega
              have hy2 : x.n ≤ y.n := by omega
              go_wp2_with fail
              have HB0 : Hid (Below w.heap.size w (wr.alloc (.cells #[vu x.n, .int .i64 x.s, sv x.d] 45))) := Lib.hid (ba hb _)
              have a0 : (wr.alloc (.cells #[vu x.n, .int .i64 x.s, sv x.d] 45)).cell? ⟨wr.heap.size, 0, none⟩ = some (vu x.n) := (Blk.new wr 45 #[vu x.n, .int .i64 x.s, sv x.d]).cell 0
              have a1 : (wr.alloc (.cells #[vu x.n, .int .i64 x.s, sv x.d] 45)).cell? ⟨wr.heap.size, 1, none⟩ = some (.int .i64 x.s) := (Blk.new wr 45 #[vu x.n, .int .i64 x.s, sv x.d]).cell 1
              have a2 : (wr.alloc (.cells #[vu x.n, .int .i64 x.s, sv x.d] 45)).cell? ⟨wr.heap.size, 2, none⟩ = some (sv x.d) := (Blk.new wr 45 #[vu x.n, .int .i64 x.s, sv x.d]).cell 2
              have b0 : (wr.alloc (.cells #[vu x.n, .int .i64 x.s, sv x.d] 45)).cell? ⟨g, off + m * 3, none⟩ = some (vu y.n) := cell_later (ba (Below.refl _ _) _) d0
              generalize wr.alloc (.cells #[vu x.n, .int .i64 x.s, sv x.d] 45) = W0 at HB0 a0 a1 a2 b0 ⊢
              go_region_held3 (fun W => W.cell? ⟨wr.heap.size, 0, none⟩ = some (vu x.n) ∧ W.cell? ⟨wr.heap.size, 1, none⟩ = some (.int .i64 x.s) ∧ W.cell? ⟨wr.heap.size, 2, none⟩ = some (sv x.d) ∧ W.cell? ⟨g, off + m * 3, none⟩ = some (vu y.n) ∧ Below W0.heap.size W0 W) (first | assumption | exact ⟨a0, a1, a2, b0, (Below.refl _ _).drew⟩) (first | (go_at_call 37; refine (HF.out _).mono ?_; rintro e w1 ⟨rfl, hb1⟩; have hb1S : w1.cell? ⟨wr.heap.size, 0, none⟩ = some (vu x.n) ∧ w1.cell? ⟨wr.heap.size, 1, none⟩ = some (.int .i64 x.s) ∧ w1.cell? ⟨wr.heap.size, 2, none⟩ = some (sv x.d) ∧ w1.cell? ⟨g, off + m * 3, none⟩ = some (vu y.n) ∧ Below W0.heap.size W0 w1 := ⟨cell_later hb1 a0, cell_later hb1 a1, cell_later hb1 a2, cell_later hb1 b0, bt ((Below.refl _ _).drew) hb1⟩))
              obtain ⟨_, _, _, _, hbz⟩ := hb1S
              go_wp2
              go_ret
              rw [HR.out]
              exact ⟨rfl, bt HB0.out hbz⟩
          · rw [decide_eq_false hx] at HF
            have HR := Lib.hid (HV1.out hx)
            go_wp2_with fail
            have HB0 : Hid (Below w.heap.size w (wr.alloc (.cells #[vu x.n, .int .i64 x.s, sv x.d] 45))) := Lib.hid (ba hb _)
            have a0 : (wr.alloc (.cells #[vu x.n, .int .i64 x.s, sv x.d] 45)).cell? ⟨wr.heap.size, 0, none⟩ = some (vu x.n) := (Blk.new wr 45 #[vu x.n, .int .i64 x.s, sv x.d]).cell 0
            have a1 : (wr.alloc (.cells #[vu x.n, .int .i64 x.s, sv x.d] 45)).cell? ⟨wr.heap.size, 1, none⟩ = some (.int .i64 x.s) := (Blk.new wr 45 #[vu x.n, .int .i64 x.s, sv x.d]).cell 1
            have a2 : (wr.alloc (.cells #[vu x.n, .int .i64 x.s, sv x.d] 45)).cell? ⟨wr.heap.size, 2, none⟩ = some (sv x.d) := (Blk.new wr 45 #[vu x.n, .int .i64 x.s, sv x.d]).cell 2
            generalize wr.alloc (.cells #[vu x.n, .int .i64 x.s, sv x.d] 45) = W0 at HB0 a0 a1 a2 ⊢
            refine wp_region_held_drew (S := fun W => W.cell? ⟨wr.heap.size, 0, none⟩ = some (vu x.n) ∧ W.cell? ⟨wr.heap.size, 1, none⟩ = some (.int .i64 x.s) ∧ W.cell? ⟨wr.heap.size, 2, none⟩ = some (sv x.d) ∧ Below W0.heap.size W0 W) (by kernel_rfl) ⟨a0, a1, a2, (Below.refl _ _).drew⟩ (fun hHeld => ?_)
            refine wpAnyH_take (i := 0) (oi := ⟨some 15, _, _, _, _, _⟩) (v := cv x) rfl (by kernel_rfl) (by kernel_rfl) (by kernel_rfl) (fun _ _ _ h => h) (Or.inl ⟨by rfl, ?_⟩) (by assumption) ?_
            · (intro w9 hSw; obtain ⟨q0, q1, q2, _⟩ := hSw; (try dsimp only at hSw); go_simp; try with_reducible rfl)
            try simp only [Act.put, List.setIfInBounds_toArray, List.set_cons_zero, List.set_cons_succ]
            refine wpAnyH_ready (rs := [1]) (by kernel_rfl) (by simp) ?_
            refine AllReadyH.cons (o := ⟨some 16, _, _, _, _, _⟩) rfl (fun K9 hK9 => ?_) AllReadyH.nil
            go_simp; go_at_call 37
            refine (HF.out _).mono ?_
            rintro e w1 ⟨rfl, hb1⟩
            have hb1S : w1.cell? ⟨wr.heap.size, 0, none⟩ = some (vu x.n) ∧ w1.cell? ⟨wr.heap.size, 1, none⟩ = some (.int .i64 x.s) ∧ w1.cell? ⟨wr.heap.size, 2, none⟩ = some (sv x.d) ∧ Below W0.heap.size W0 w1 := ⟨cell_later hb1 a0, cell_later hb1 a1, cell_later hb1 a2, bt ((Below.refl _ _).drew) hb1⟩
            refine hK9.out _ _ ?_ (fun hHeld => ?_)
            · exact hb1S
            clear hK9 K9
            try simp only [Act.put, List.setIfInBounds_toArray, List.set_cons_zero, List.set_cons_succ]
            refine wpAnyH_take (i := 2) (oi := ⟨some 17, _, _, _, _, _⟩) (v := ?_) rfl (by kernel_rfl) (by kernel_rfl) (by kernel_rfl) (fun _ _ _ h => h) (Or.inl ⟨by rfl, ?_⟩) (by assumption) ?_
            rotate_left
            · (intro w9 hSw; (try dsimp only at hSw); go_simp; try with_reducible rfl)
            try simp only [Act.put, List.setIfInBounds_toArray, List.set_cons_zero, List.set_cons_succ]
            refine wpAnyH_take (i := 3) (oi := ⟨some 18, _, _, _, _, _⟩) (v := ?_) rfl (by kernel_rfl) (by kernel_rfl) (by kernel_rfl) (fun _ _ _ h => h) (Or.inl ⟨by rfl, ?_⟩) (by assumption) ?_
            rotate_left
            · (intro w9 hSw; (try dsimp only at hSw); go_simp; try with_reducible rfl)
            try simp only [Act.put, List.setIfInBounds_toArray, List.set_cons_zero, List.set_cons_succ]
            refine wpAnyH_take (i := 4) (oi := ⟨some 19, _, _, _, _, _⟩) (v := undef) rfl (by kernel_rfl) (by kernel_rfl) (by kernel_rfl) (fun _ _ _ h => h) (Or.inr ⟨by rfl, rfl⟩) (by assumption) ?_
            try simp only [Act.put, List.setIfInBounds_toArray, List.set_cons_zero, List.set_cons_succ]
            refine wpAnyH_take (i := 5) (oi := ⟨some 20, _, _, _, _, _⟩) (v := undef) rfl (by kernel_rfl) (by kernel_rfl) (by kernel_rfl) (fun _ _ _ h => h) (Or.inr ⟨by rfl, rfl⟩) (by assumption) ?_
            try simp only [Act.put, List.setIfInBounds_toArray, List.set_cons_zero, List.set_cons_succ]
            refine wpAnyH_take (i := 6) (oi := ⟨some 21, _, _, _, _, _⟩) (v := undef) rfl (by kernel_rfl) (by kernel_rfl) (by kernel_rfl) (fun _ _ _ h => h) (Or.inr ⟨by rfl, rfl⟩) (by assumption) ?_
            try simp only [Act.put, List.setIfInBounds_toArray, List.set_cons_zero, List.set_cons_succ]
            refine wpAnyH_take (i := 7) (oi := ⟨some 22, _, _, _, _, _⟩) (v := undef) rfl (by kernel_rfl) (by kernel_rfl) (by kernel_rfl) (fun _ _ _ h => h) (Or.inr ⟨by rfl, rfl⟩) (by assumption) ?_
            try simp only [Act.put, List.setIfInBounds_toArray, List.set_cons_zero, List.set_cons_succ]
            refine wpAnyH_take (i := 8) (oi := ⟨some 23, _, _, _, _, _⟩) (v := undef) rfl (by kernel_rfl) (by kernel_rfl) (by kernel_rfl) (fun _ _ _ h => h) (Or.inr ⟨by rfl, rfl⟩) (by assumption) ?_
            try simp only [Act.put, List.setIfInBounds_toArray, List.set_cons_zero, List.set_cons_succ]
            refine wpAnyH_take (i := 9) (oi := ⟨some 24, _, _, _, _, _⟩) (v := undef) rfl (by kernel_rfl) (by kernel_rfl) (by kernel_rfl) (fun _ _ _ h => h) (Or.inr ⟨by rfl, rfl⟩) (by assumption) ?_
            try simp only [Act.put, List.setIfInBounds_toArray, List.set_cons_zero, List.set_cons_succ]
            refine wpAnyH_take (i := 10) (oi := ⟨some 25, _, _, _, _, _⟩) (v := undef) rfl (by kernel_rfl) (by kernel_rfl) (by kernel_rfl) (fun _ _ _ h => h) (Or.inr ⟨by rfl, rfl⟩) (by assumption) ?_
            try simp only [Act.put, List.setIfInBounds_toArray, List.set_cons_zero, List.set_cons_succ]
            refine wpAnyH_take (i := 11) (oi := ⟨some 26, _, _, _, _, _⟩) (v := undef) rfl (by kernel_rfl) (by kernel_rfl) (by kernel_rfl) (fun _ _ _ h => h) (Or.inr ⟨by rfl, rfl⟩) (by assumption) ?_
            try simp only [Act.put, List.setIfInBounds_toArray, List.set_cons_zero, List.set_cons_succ]
            refine wpAnyH_take (i := 12) (oi := ⟨some 27, _, _, _, _, _⟩) (v := undef) rfl (by kernel_rfl) (by kernel_rfl) (by kernel_rfl) (fun _ _ _ h => h) (Or.inr ⟨by rfl, rfl⟩) (by assumption) ?_
            try simp only [Act.put, List.setIfInBounds_toArray, List.set_cons_zero, List.set_cons_succ]
            refine wpAnyH_take (i := 13) (oi := ⟨some 28, _, _, _, _, _⟩) (v := undef) rfl (by kernel_rfl) (by kernel_rfl) (by kernel_rfl) (fun _ _ _ h => h) (Or.inr ⟨by rfl, rfl⟩) (by assumption) ?_
            try simp only [Act.put, List.setIfInBounds_toArray, List.set_cons_zero, List.set_cons_succ]
            refine wpAnyH_take (i := 14) (oi := ⟨some 29, _, _, _, _, _⟩) (v := undef) rfl (by kernel_rfl) (by kernel_rfl) (by kernel_rfl) (fun _ _ _ h => h) (Or.inr ⟨by rfl, rfl⟩) (by assumption) ?_
            try simp only [Act.put, List.setIfInBounds_toArray, List.set_cons_zero, List.set_cons_succ]
            refine wpAnyH_take (i := 15) (oi := ⟨some 30, _, _, _, _, _⟩) (v := undef) rfl (by kernel_rfl) (by kernel_rfl) (by kernel_rfl) (fun _ _ _ h => h) (Or.inr ⟨by rfl, rfl⟩) (by assumption) ?_
            try simp only [Act.put, List.setIfInBounds_toArray, List.set_cons_zero, List.set_cons_succ]
            refine wpAnyH_take (i := 16) (oi := ⟨some 31, _, _, _, _, _⟩) (v := undef) rfl (by kernel_rfl) (by kernel_rfl) (by kernel_rfl) (fun _ _ _ h => h) (Or.inr ⟨by rfl, rfl⟩) (by assumption) ?_
            try simp only [Act.put, List.setIfInBounds_toArray, List.set_cons_zero, List.set_cons_succ]
            refine wpAnyH_take (i := 17) (oi := ⟨some 32, _, _, _, _, _⟩) (v := ?_) rfl (by kernel_rfl) (by kernel_rfl) (by kernel_rfl) (fun _ _ _ h => h) (Or.inl ⟨by rfl, ?_⟩) (by assumption) ?_
            rotate_left
            · (intro w9 hSw; (try dsimp only at hSw); go_simp; try with_reducible rfl)
            try simp only [Act.put, List.setIfInBounds_toArray, List.set_cons_zero, List.set_cons_succ]
            refine wpAnyH_done (by kernel_rfl) ?_ _
            obtain ⟨_, _, _, hbz⟩ := hb1S
            go_wp2
            go_ret
            rw [HR.out]
            exact ⟨rfl, bt HB0.out hbz⟩
      · obtain rfl : k = n := by omega
        have HR := Lib.hid (HY.out HJ.out HJ2.out)
        go_wp2
        go_ret
        rw [HR.out]
        exact ⟨rfl, hb⟩
  · have h1 : ¬ CRt L := fun h => by have := h.1; omega
    rw [decide_eq_false h1]
    clear h1 hA hl
    go_enter Try.func14, Try.ntmps14
    go_wp2
    go_ret
    exact ⟨rfl, Below.refl _ _⟩
end Go.Proofs.Ytbecambkjmheiaa
/- The contract of check: why a span may not be asked for. -/
namespace Go.Proofs.Ytbecambkjmheiaa
open Go.RowKit

/-- Why a span may not be asked for. -/
def cWhy (L : List CL) (f n : Nat) : Int := if ¬ CRt L then 1 else if n = 0 ∨ 224 < n then 4 else if f + n ≤ 18446744073709551616 then 0 else 2
theorem cWhy_ok {L : List CL} {f n : Nat} : cWhy L f n = 0 ↔ CRt L ∧ 1 ≤ n ∧ n ≤ 224 ∧ f + n ≤ 18446744073709551616 := by
  unfold cWhy
  by_cases h : CRt L
  · rw [if_neg (fun h' => h' h)]
    split
    · constructor
      · intro h1; cases h1
      · intro h1; omega
    · split
      · exact ⟨fun _ => ⟨h, by omega, by omega, by omega⟩, fun _ => rfl⟩
      · constructor
        · intro h1; cases h1
        · intro h1; omega
  · rw [if_pos h]
    constructor
    · intro h1; cases h1
    · intro h1; exact absurd h1.1 h

set_option maxRecDepth 100000 in
set_option maxHeartbeats 4000000 in
theorem ncheck_any (A : Option Addr) (n c f m : Nat) (L : List CL) (w : World) (hA : CR w A L) (hl : L.length = n) (hn : n ≤ 65536) (hf : f < 18446744073709551616) (hm : m < 18446744073709551616) :
    Calls Try.prog 30 #[.slice A n c, .agg #[vu f, vu m]] w fun e w' => e = .returned (.int .i64 (cWhy L f m)) ∧ Below w.heap.size w w' := by
  have HR := Lib.hid (fun W (hb : Below w.heap.size w W) => nright_any A n c L W (hA.later hb) hl hn)
  by_cases h1 : CRt L
  · rw [decide_eq_true h1] at HR
    by_cases h2 : m = 0 ∨ 224 < m
    · have e : cWhy L f m = 4 := by rw [cWhy, if_neg (fun h => h h1), if_pos h2]
      rw [e]
      clear e hA
      rcases Nat.eq_zero_or_pos m with h3 | h3
      · subst h3
        go_enter Try.func30, Try.ntmps30
        go_wp2_with fail
        refine (HR.out _ (ba (Below.refl _ _) _)).mono ?_
        rintro e w1 ⟨rfl, hb1⟩
        obtain ⟨r1, s1⟩ := At.later (v := vu 0) (b := w.heap.size) (o := 1) ⟨by go_simp, by go_simp⟩ hb1
        have HB := Lib.hid (bt (ba (Below.refl w.heap.size w) _) hb1)
        clear hb1
        go_wp2
        go_ret
        exact ⟨rfl, HB.out⟩
      · have h5 : decide ((m : Int) = 0) = false := by simp only [decide_eq_false_iff_not]; omega
        have h6 : (224 : Int) < (m : Int) := by omega
        have h7 : ((m : Int) == 0) = false := by simp; omega
        clear h2 h3
        go_enter Try.func30, Try.ntmps30
        go_wp2_with fail
        refine (HR.out _ (ba (Below.refl _ _) _)).mono ?_
        rintro e w1 ⟨rfl, hb1⟩
        obtain ⟨r1, s1⟩ := At.later (v := vu m) (b := w.heap.size) (o := 1) ⟨by go_simp, by go_simp⟩ hb1
        have HB := Lib.hid (bt (ba (Below.refl w.heap.size w) _) hb1)
        clear hb1
        go_wp2
        go_ret
        exact ⟨rfl, HB.out⟩
    · have HC : Hid (∀ W, Calls Try.prog 49 #[.agg #[vu f, vu m]] W fun e w' => e = .returned (.int .i64 (cWhy L f m)) ∧ Below W.heap.size W w') := Lib.hid fun W => by
        have e : cWhy L f m = if f + m ≤ 18446744073709551616 then 0 else 2 := by rw [cWhy, if_neg (fun h => h h1), if_neg h2]
        rw [e]
        split
        · exact check_ok (f : Int) (m : Int) W (by omega) (by omega) (by omega)
        · exact check_bad (f : Int) (m : Int) 2 W (by omega) (by omega) (by omega) (by unfold Bad; omega)
      generalize cWhy L f m = E at *
      have h5 : decide ((m : Int) = 0) = false := by simp only [decide_eq_false_iff_not]; omega
      have h6 : ¬ ((224 : Int) < (m : Int)) := by omega
      have h7 : ((m : Int) == 0) = false := by simp; omega
      have h8 : ¬ (224 < m) := by omega
      have h9 : ¬ (m = 0) := by omega
      clear h2 hA
      go_enter Try.func30, Try.ntmps30
      go_wp2_with fail
      refine (HR.out _ (ba (Below.refl _ _) _)).mono ?_
      rintro e w1 ⟨rfl, hb1⟩
      obtain ⟨r0, s0⟩ := At.later (v := vu f) (b := w.heap.size) (o := 0) ⟨by go_simp, by go_simp⟩ hb1
      obtain ⟨r1, s1⟩ := At.later (v := vu m) (b := w.heap.size) (o := 1) ⟨by go_simp, by go_simp⟩ hb1
      have HB := Lib.hid (bt (ba (Below.refl w.heap.size w) _) hb1)
      clear hb1
      go_wp2_with fail
      refine (HC.out _).mono ?_
      rintro e w2 ⟨rfl, hb2⟩
      have HB2 := Lib.hid (bt HB.out hb2)
      clear hb2
      go_wp2
      go_ret
      exact ⟨rfl, HB2.out⟩
  · have e : cWhy L f m = 1 := by rw [cWhy, if_pos h1]
    rw [e]
    rw [decide_eq_false h1] at HR
    clear e hA h1
    go_enter Try.func30, Try.ntmps30
    go_wp2_with fail
    refine (HR.out _ (ba (Below.refl _ _) _)).mono ?_
    rintro e w1 ⟨rfl, hb1⟩
    have HB := Lib.hid (bt (ba (Below.refl w.heap.size w) _) hb1)
    clear hb1
    go_wp2
    go_ret
    exact ⟨rfl, HB.out⟩
end Go.Proofs.Ytbecambkjmheiaa
