/- Texts of this seat, one behind the other: ERight. -/
import Derived.Test.YthimnpiiehggnaaQ02
/- The contract of Right. -/
namespace Go.Proofs.Ythimnpiiehggnaa
open Go.RowKit

/-- A run's numbers are words. -/
def EU (r : Rn) : Prop := 0 ≤ r.f ∧ r.f ≤ 18446744073709551615 ∧ 0 ≤ r.n ∧ r.n ≤ 18446744073709551615

set_option maxRecDepth 100000 in
set_option maxHeartbeats 4000000 in
theorem eright_any (A : Option Addr) (n c : Nat) (L : List Rn) (w : World) (hA : ER w A L) (hl : L.length = n) (hn : n ≤ 65536) (hu : ∀ r ∈ L, EU r) :
    Calls Try.prog 10 #[.slice A n c] w fun e w' => e = .returned (.bool (decide (ERt L))) ∧ Below w.heap.size w w' := by
  by_cases h64 : n ≤ 64
  · have HA := Lib.hid hA
    have HU : Hid (∀ j, j < n → EU (L.getD j default)) := Lib.hid fun j hj => hu _ (egetD_mem (by omega))
    have HV : Hid (∀ j, j < n → ¬ EOk (L.getD j default) → decide (ERt L) = false) := Lib.hid fun j hj h => decide_eq_false fun hr => h (hr.2.1 j (by omega))
    have HK : Hid (∀ j, j + 1 < n → ¬ EFol (L.getD j default) (L.getD (j + 1) default) → decide (ERt L) = false) := Lib.hid fun j hj h => decide_eq_false fun hr => h (by have := hr.2.2 (j + 1) (by omega) (by omega); rwa [Nat.add_sub_cancel] at this)
    have HY : Hid ((∀ j, j < n → EOk (L.getD j default)) → (∀ j, j < n → 0 < j → EFol (L.getD (j - 1) default) (L.getD j default)) → decide (ERt L) = true) := Lib.hid fun a b => decide_eq_true ⟨by omega, fun j hj => a j (by omega), fun j hj => b j (by omega)⟩
    have HL := Lib.hid hl
    generalize decide (ERt L) = R at HV HK HY ⊢
    clear hA hl hu
    go_enter Try.func10, Try.ntmps10
    go_wp2_with fail
    go_loopw [10] (fun iv wr => ∃ k : Nat, k ≤ n ∧ iv = .int .i64 k ∧ Hid (∀ j, j < k → EOk (L.getD j default)) ∧ Hid (∀ j, j < k → 0 < j → EFol (L.getD (j - 1) default) (L.getD j default)) ∧ Below w.heap.size w wr) (fun i _ => n - (intOf i).toNat)
    case atStart => exact ⟨0, Nat.zero_le _, rfl, Lib.hid (fun j hj => by omega), Lib.hid (fun j hj => by omega), Below.refl _ _⟩
    case round =>
      obtain ⟨k, hk, rfl, HJ, HJ2, hb⟩ := hrel
      by_cases hlt : k < n
      · obtain ⟨g, off, rfl, c0, c1, c2⟩ := (HA.out.later hb) k (by rw [HL.out]; exact hlt)
        have HV1 := Lib.hid (HV.out k hlt)
        have HU1 := Lib.hid (HU.out k hlt)
        have i0 : (0 : Int) ≤ (k : Int) := by omega
        have i1 : (k : Int) < (n : Int) := by omega
        have HJ1 : Hid (EOk (L.getD k default) → ∀ j, j < k + 1 → EOk (L.getD j default)) := Lib.hid fun h j hj => by
          by_cases e : j = k
          · rw [e]; exact h
          · exact HJ.out j (by omega)
        rcases Nat.eq_zero_or_pos k with rfl | hk0
        · have HJ3 : Hid (∀ j, j < 0 + 1 → 0 < j → EFol (L.getD (j - 1) default) (L.getD j default)) := Lib.hid fun j hj h0 => by omega
          generalize L.getD 0 default = x at *
          simp only [Nat.zero_mul, Nat.add_zero] at c0 c1 c2
          have HF := Lib.hid (fun W => emay_any x W HU1.out.1 HU1.out.2.1 HU1.out.2.2.1 HU1.out.2.2.2)
          have d0 : decide ((0 : Int) < 0) = false := by simp
          by_cases hx : EOk x
          · rw [decide_eq_true hx] at HF
            go_wp2_with fail
            have HB0 : Hid (Below w.heap.size w (wr.alloc (.cells #[.int .u64 x.f, .int .u64 x.n, .int .i64 x.s] 47))) := Lib.hid (ba hb _)
            have a0 : (wr.alloc (.cells #[.int .u64 x.f, .int .u64 x.n, .int .i64 x.s] 47)).cell? ⟨wr.heap.size, 0, none⟩ = some (.int .u64 x.f) := (Blk.new wr 47 #[.int .u64 x.f, .int .u64 x.n, .int .i64 x.s]).cell 0
            have a1 : (wr.alloc (.cells #[.int .u64 x.f, .int .u64 x.n, .int .i64 x.s] 47)).cell? ⟨wr.heap.size, 1, none⟩ = some (.int .u64 x.n) := (Blk.new wr 47 #[.int .u64 x.f, .int .u64 x.n, .int .i64 x.s]).cell 1
            have a2 : (wr.alloc (.cells #[.int .u64 x.f, .int .u64 x.n, .int .i64 x.s] 47)).cell? ⟨wr.heap.size, 2, none⟩ = some (.int .i64 x.s) := (Blk.new wr 47 #[.int .u64 x.f, .int .u64 x.n, .int .i64 x.s]).cell 2
            generalize wr.alloc (.cells #[.int .u64 x.f, .int .u64 x.n, .int .i64 x.s] 47) = W0 at HB0 a0 a1 a2 ⊢
            refine wp_region_held_drew (S := fun W => W.cell? ⟨wr.heap.size, 0, none⟩ = some (.int .u64 x.f) ∧ W.cell? ⟨wr.heap.size, 1, none⟩ = some (.int .u64 x.n) ∧ W.cell? ⟨wr.heap.size, 2, none⟩ = some (.int .i64 x.s) ∧ Below W0.heap.size W0 W) (by kernel_rfl) ⟨a0, a1, a2, (Below.refl _ _).drew⟩ (fun hHeld => ?_)
            refine wpAnyH_take (i := 0) (oi := ⟨some 15, _, _, _, _, _⟩) (v := .agg #[.int .u64 x.f, .int .u64 x.n, .int .i64 x.s]) rfl (by kernel_rfl) (by kernel_rfl) (by kernel_rfl) (fun _ _ _ h => h) (Or.inl ⟨by rfl, ?_⟩) (by assumption) ?_
            · (intro w9 hSw; obtain ⟨q0, q1, q2, _⟩ := hSw; (try dsimp only at hSw); go_simp; try with_reducible rfl)
            try simp only [Act.put, List.setIfInBounds_toArray, List.set_cons_zero, List.set_cons_succ]
            refine wpAnyH_ready (rs := [1]) (by kernel_rfl) (by simp) ?_
            refine AllReadyH.cons (o := ⟨some 16, _, _, _, _, _⟩) rfl (fun K9 hK9 => ?_) AllReadyH.nil
            go_simp; go_at_call 23
            refine (HF.out _).mono ?_
            rintro e w1 ⟨rfl, hb1⟩
            have hb1S : w1.cell? ⟨wr.heap.size, 0, none⟩ = some (.int .u64 x.f) ∧ w1.cell? ⟨wr.heap.size, 1, none⟩ = some (.int .u64 x.n) ∧ w1.cell? ⟨wr.heap.size, 2, none⟩ = some (.int .i64 x.s) ∧ Below W0.heap.size W0 w1 := ⟨ecell hb1 a0, ecell hb1 a1, ecell hb1 a2, bt ((Below.refl _ _).drew) hb1⟩
            refine hK9.out _ _ ?_ (fun hHeld => ?_)
            · exact hb1S
            clear hK9 K9
            try simp only [Act.put, List.setIfInBounds_toArray, List.set_cons_zero, List.set_cons_succ]
            refine wpAnyH_take (i := 2) (oi := ⟨some 17, _, _, _, _, _⟩) (v := ?_) rfl (by kernel_rfl) (by kernel_rfl) (by kernel_rfl) (fun _ _ _ h => h) (Or.inl ⟨by rfl, ?_⟩) (by assumption) ?_
            rotate_left
            · (intro w9 hSw; (try dsimp only at hSw); go_simp; try with_reducible rfl)
            try simp only [Act.put, List.setIfInBounds_toArray, List.set_cons_zero, List.set_cons_succ]
            refine wpAnyH_take (i := 3) (oi := ⟨some 18, _, _, _, _, _⟩) (v := ?_) rfl (by kernel_rfl) (by kernel_rfl) (by kernel_rfl) (fun _ _ _ h => h) (Or.inl ⟨by rfl, ?_⟩) (by assumption) ?_
            rotate_left
            · (intro w9 hSw; (try dsimp only at hSw); go_simp; try with_reducible rfl)
            try simp only [Act.put, List.setIfInBounds_toArray, List.set_cons_zero, List.set_cons_succ]
            refine wpAnyH_take (i := 4) (oi := ⟨some 19, _, _, _, _, _⟩) (v := ?_) rfl (by kernel_rfl) (by kernel_rfl) (by kernel_rfl) (fun _ _ _ h => h) (Or.inl ⟨by rfl, ?_⟩) (by assumption) ?_
            rotate_left
            · (intro w9 hSw; (try dsimp only at hSw); go_simp; try with_reducible rfl)
            try simp only [Act.put, List.setIfInBounds_toArray, List.set_cons_zero, List.set_cons_succ]
            refine wpAnyH_take (i := 5) (oi := ⟨some 20, _, _, _, _, _⟩) (v := ?_) rfl (by kernel_rfl) (by kernel_rfl) (by kernel_rfl) (fun _ _ _ h => h) (Or.inl ⟨by rfl, ?_⟩) (by assumption) ?_
            rotate_left
            · (intro w9 hSw; (try dsimp only at hSw); go_simp; try with_reducible rfl)
            try simp only [Act.put, List.setIfInBounds_toArray, List.set_cons_zero, List.set_cons_succ]
            refine wpAnyH_take (i := 6) (oi := ⟨some 21, _, _, _, _, _⟩) (v := ?_) rfl (by kernel_rfl) (by kernel_rfl) (by kernel_rfl) (fun _ _ _ h => h) (Or.inl ⟨by rfl, ?_⟩) (by assumption) ?_
            rotate_left
            · (intro w9 hSw; (try dsimp only at hSw); go_simp; try with_reducible rfl)
            try simp only [Act.put, List.setIfInBounds_toArray, List.set_cons_zero, List.set_cons_succ]
            refine wpAnyH_take (i := 7) (oi := ⟨some 22, _, _, _, _, _⟩) (v := undef) rfl (by kernel_rfl) (by kernel_rfl) (by kernel_rfl) (fun _ _ _ h => h) (Or.inr ⟨by rfl, rfl⟩) (by assumption) ?_
            try simp only [Act.put, List.setIfInBounds_toArray, List.set_cons_zero, List.set_cons_succ]
            refine wpAnyH_take (i := 8) (oi := ⟨some 23, _, _, _, _, _⟩) (v := undef) rfl (by kernel_rfl) (by kernel_rfl) (by kernel_rfl) (fun _ _ _ h => h) (Or.inr ⟨by rfl, rfl⟩) (by assumption) ?_
            try simp only [Act.put, List.setIfInBounds_toArray, List.set_cons_zero, List.set_cons_succ]
            refine wpAnyH_take (i := 9) (oi := ⟨some 24, _, _, _, _, _⟩) (v := undef) rfl (by kernel_rfl) (by kernel_rfl) (by kernel_rfl) (fun _ _ _ h => h) (Or.inr ⟨by rfl, rfl⟩) (by assumption) ?_
            try simp only [Act.put, List.setIfInBounds_toArray, List.set_cons_zero, List.set_cons_succ]
            refine wpAnyH_take (i := 10) (oi := ⟨some 25, _, _, _, _, _⟩) (v := undef) rfl (by kernel_rfl) (by kernel_rfl) (by kernel_rfl) (fun _ _ _ h => h) (Or.inr ⟨by rfl, rfl⟩) (by assumption) ?_
            try simp only [Act.put, List.setIfInBounds_toArray, List.set_cons_zero, List.set_cons_succ]
            refine wpAnyH_take (i := 11) (oi := ⟨some 26, _, _, _, _, _⟩) (v := undef) rfl (by kernel_rfl) (by kernel_rfl) (by kernel_rfl) (fun _ _ _ h => h) (Or.inr ⟨by rfl, rfl⟩) (by assumption) ?_
            try simp only [Act.put, List.setIfInBounds_toArray, List.set_cons_zero, List.set_cons_succ]
            refine wpAnyH_take (i := 12) (oi := ⟨some 27, _, _, _, _, _⟩) (v := undef) rfl (by kernel_rfl) (by kernel_rfl) (by kernel_rfl) (fun _ _ _ h => h) (Or.inr ⟨by rfl, rfl⟩) (by assumption) ?_
            try simp only [Act.put, List.setIfInBounds_toArray, List.set_cons_zero, List.set_cons_succ]
            refine wpAnyH_take (i := 13) (oi := ⟨some 28, _, _, _, _, _⟩) (v := undef) rfl (by kernel_rfl) (by kernel_rfl) (by kernel_rfl) (fun _ _ _ h => h) (Or.inr ⟨by rfl, rfl⟩) (by assumption) ?_
            try simp only [Act.put, List.setIfInBounds_toArray, List.set_cons_zero, List.set_cons_succ]
            refine wpAnyH_take (i := 14) (oi := ⟨some 29, _, _, _, _, _⟩) (v := undef) rfl (by kernel_rfl) (by kernel_rfl) (by kernel_rfl) (fun _ _ _ h => h) (Or.inr ⟨by rfl, rfl⟩) (by assumption) ?_
            try simp only [Act.put, List.setIfInBounds_toArray, List.set_cons_zero, List.set_cons_succ]
            refine wpAnyH_take (i := 15) (oi := ⟨some 30, _, _, _, _, _⟩) (v := ?_) rfl (by kernel_rfl) (by kernel_rfl) (by kernel_rfl) (fun _ _ _ h => h) (Or.inl ⟨by rfl, ?_⟩) (by assumption) ?_
            rotate_left
            · (intro w9 hSw; (try dsimp only at hSw); go_simp; try with_reducible rfl)
            try simp only [Act.put, List.setIfInBounds_toArray, List.set_cons_zero, List.set_cons_succ]
            refine wpAnyH_take (i := 16) (oi := ⟨some 31, _, _, _, _, _⟩) (v := ?_) rfl (by kernel_rfl) (by kernel_rfl) (by kernel_rfl) (fun _ _ _ h => h) (Or.inl ⟨by rfl, ?_⟩) (by assumption) ?_
            rotate_left
            · (intro w9 hSw; (try dsimp only at hSw); go_simp; try with_reducible rfl)
            try simp only [Act.put, List.setIfInBounds_toArray, List.set_cons_zero, List.set_cons_succ]
            refine wpAnyH_done (by kernel_rfl) ?_ _
            obtain ⟨_, _, _, hbz⟩ := hb1S
            go_wp2
            exact ⟨⟨1, by omega, by go_num, Lib.hid (HJ1.out hx), HJ3, bt HB0.out hbz⟩, by simp [intOf]; omega⟩
          · rw [decide_eq_false hx] at HF
            have HR := Lib.hid (HV1.out hx)
            go_wp2_with fail
            have HB0 : Hid (Below w.heap.size w (wr.alloc (.cells #[.int .u64 x.f, .int .u64 x.n, .int .i64 x.s] 47))) := Lib.hid (ba hb _)
            have a0 : (wr.alloc (.cells #[.int .u64 x.f, .int .u64 x.n, .int .i64 x.s] 47)).cell? ⟨wr.heap.size, 0, none⟩ = some (.int .u64 x.f) := (Blk.new wr 47 #[.int .u64 x.f, .int .u64 x.n, .int .i64 x.s]).cell 0
            have a1 : (wr.alloc (.cells #[.int .u64 x.f, .int .u64 x.n, .int .i64 x.s] 47)).cell? ⟨wr.heap.size, 1, none⟩ = some (.int .u64 x.n) := (Blk.new wr 47 #[.int .u64 x.f, .int .u64 x.n, .int .i64 x.s]).cell 1
            have a2 : (wr.alloc (.cells #[.int .u64 x.f, .int .u64 x.n, .int .i64 x.s] 47)).cell? ⟨wr.heap.size, 2, none⟩ = some (.int .i64 x.s) := (Blk.new wr 47 #[.int .u64 x.f, .int .u64 x.n, .int .i64 x.s]).cell 2
            generalize wr.alloc (.cells #[.int .u64 x.f, .int .u64 x.n, .int .i64 x.s] 47) = W0 at HB0 a0 a1 a2 ⊢
            refine wp_region_held_drew (S := fun W => W.cell? ⟨wr.heap.size, 0, none⟩ = some (.int .u64 x.f) ∧ W.cell? ⟨wr.heap.size, 1, none⟩ = some (.int .u64 x.n) ∧ W.cell? ⟨wr.heap.size, 2, none⟩ = some (.int .i64 x.s) ∧ Below W0.heap.size W0 W) (by kernel_rfl) ⟨a0, a1, a2, (Below.refl _ _).drew⟩ (fun hHeld => ?_)
            refine wpAnyH_take (i := 0) (oi := ⟨some 15, _, _, _, _, _⟩) (v := .agg #[.int .u64 x.f, .int .u64 x.n, .int .i64 x.s]) rfl (by kernel_rfl) (by kernel_rfl) (by kernel_rfl) (fun _ _ _ h => h) (Or.inl ⟨by rfl, ?_⟩) (by assumption) ?_
            · (intro w9 hSw; obtain ⟨q0, q1, q2, _⟩ := hSw; (try dsimp only at hSw); go_simp; try with_reducible rfl)
            try simp only [Act.put, List.setIfInBounds_toArray, List.set_cons_zero, List.set_cons_succ]
            refine wpAnyH_ready (rs := [1]) (by kernel_rfl) (by simp) ?_
            refine AllReadyH.cons (o := ⟨some 16, _, _, _, _, _⟩) rfl (fun K9 hK9 => ?_) AllReadyH.nil
            go_simp; go_at_call 23
            refine (HF.out _).mono ?_
            rintro e w1 ⟨rfl, hb1⟩
            have hb1S : w1.cell? ⟨wr.heap.size, 0, none⟩ = some (.int .u64 x.f) ∧ w1.cell? ⟨wr.heap.size, 1, none⟩ = some (.int .u64 x.n) ∧ w1.cell? ⟨wr.heap.size, 2, none⟩ = some (.int .i64 x.s) ∧ Below W0.heap.size W0 w1 := ⟨ecell hb1 a0, ecell hb1 a1, ecell hb1 a2, bt ((Below.refl _ _).drew) hb1⟩
            refine hK9.out _ _ ?_ (fun hHeld => ?_)
            · exact hb1S
            clear hK9 K9
            try simp only [Act.put, List.setIfInBounds_toArray, List.set_cons_zero, List.set_cons_succ]
            refine wpAnyH_take (i := 2) (oi := ⟨some 17, _, _, _, _, _⟩) (v := ?_) rfl (by kernel_rfl) (by kernel_rfl) (by kernel_rfl) (fun _ _ _ h => h) (Or.inl ⟨by rfl, ?_⟩) (by assumption) ?_
            rotate_left
            · (intro w9 hSw; (try dsimp only at hSw); go_simp; try with_reducible rfl)
            try simp only [Act.put, List.setIfInBounds_toArray, List.set_cons_zero, List.set_cons_succ]
            refine wpAnyH_take (i := 3) (oi := ⟨some 18, _, _, _, _, _⟩) (v := ?_) rfl (by kernel_rfl) (by kernel_rfl) (by kernel_rfl) (fun _ _ _ h => h) (Or.inl ⟨by rfl, ?_⟩) (by assumption) ?_
            rotate_left
            · (intro w9 hSw; (try dsimp only at hSw); go_simp; try with_reducible rfl)
            try simp only [Act.put, List.setIfInBounds_toArray, List.set_cons_zero, List.set_cons_succ]
            refine wpAnyH_take (i := 4) (oi := ⟨some 19, _, _, _, _, _⟩) (v := undef) rfl (by kernel_rfl) (by kernel_rfl) (by kernel_rfl) (fun _ _ _ h => h) (Or.inr ⟨by rfl, rfl⟩) (by assumption) ?_
            try simp only [Act.put, List.setIfInBounds_toArray, List.set_cons_zero, List.set_cons_succ]
            refine wpAnyH_take (i := 5) (oi := ⟨some 20, _, _, _, _, _⟩) (v := undef) rfl (by kernel_rfl) (by kernel_rfl) (by kernel_rfl) (fun _ _ _ h => h) (Or.inr ⟨by rfl, rfl⟩) (by assumption) ?_
            try simp only [Act.put, List.setIfInBounds_toArray, List.set_cons_zero, List.set_cons_succ]
            refine wpAnyH_take (i := 6) (oi := ⟨some 21, _, _, _, _, _⟩) (v := undef) rfl (by kernel_rfl) (by kernel_rfl) (by kernel_rfl) (fun _ _ _ h => h) (Or.inr ⟨by rfl, rfl⟩) (by assumption) ?_
            try simp only [Act.put, List.setIfInBounds_toArray, List.set_cons_zero, List.set_cons_succ]
            refine wpAnyH_take (i := 7) (oi := ⟨some 22, _, _, _, _, _⟩) (v := undef) rfl (by kernel_rfl) (by kernel_rfl) (by kernel_rfl) (fun _ _ _ h => h) (Or.inr ⟨by rfl, rfl⟩) (by assumption) ?_
            try simp only [Act.put, List.setIfInBounds_toArray, List.set_cons_zero, List.set_cons_succ]
            refine wpAnyH_take (i := 8) (oi := ⟨some 23, _, _, _, _, _⟩) (v := undef) rfl (by kernel_rfl) (by kernel_rfl) (by kernel_rfl) (fun _ _ _ h => h) (Or.inr ⟨by rfl, rfl⟩) (by assumption) ?_
            try simp only [Act.put, List.setIfInBounds_toArray, List.set_cons_zero, List.set_cons_succ]
            refine wpAnyH_take (i := 9) (oi := ⟨some 24, _, _, _, _, _⟩) (v := undef) rfl (by kernel_rfl) (by kernel_rfl) (by kernel_rfl) (fun _ _ _ h => h) (Or.inr ⟨by rfl, rfl⟩) (by assumption) ?_
            try simp only [Act.put, List.setIfInBounds_toArray, List.set_cons_zero, List.set_cons_succ]
            refine wpAnyH_take (i := 10) (oi := ⟨some 25, _, _, _, _, _⟩) (v := undef) rfl (by kernel_rfl) (by kernel_rfl) (by kernel_rfl) (fun _ _ _ h => h) (Or.inr ⟨by rfl, rfl⟩) (by assumption) ?_
            try simp only [Act.put, List.setIfInBounds_toArray, List.set_cons_zero, List.set_cons_succ]
            refine wpAnyH_take (i := 11) (oi := ⟨some 26, _, _, _, _, _⟩) (v := undef) rfl (by kernel_rfl) (by kernel_rfl) (by kernel_rfl) (fun _ _ _ h => h) (Or.inr ⟨by rfl, rfl⟩) (by assumption) ?_
            try simp only [Act.put, List.setIfInBounds_toArray, List.set_cons_zero, List.set_cons_succ]
            refine wpAnyH_take (i := 12) (oi := ⟨some 27, _, _, _, _, _⟩) (v := undef) rfl (by kernel_rfl) (by kernel_rfl) (by kernel_rfl) (fun _ _ _ h => h) (Or.inr ⟨by rfl, rfl⟩) (by assumption) ?_
            try simp only [Act.put, List.setIfInBounds_toArray, List.set_cons_zero, List.set_cons_succ]
            refine wpAnyH_take (i := 13) (oi := ⟨some 28, _, _, _, _, _⟩) (v := undef) rfl (by kernel_rfl) (by kernel_rfl) (by kernel_rfl) (fun _ _ _ h => h) (Or.inr ⟨by rfl, rfl⟩) (by assumption) ?_
            try simp only [Act.put, List.setIfInBounds_toArray, List.set_cons_zero, List.set_cons_succ]
            refine wpAnyH_take (i := 14) (oi := ⟨some 29, _, _, _, _, _⟩) (v := undef) rfl (by kernel_rfl) (by kernel_rfl) (by kernel_rfl) (fun _ _ _ h => h) (Or.inr ⟨by rfl, rfl⟩) (by assumption) ?_
            try simp only [Act.put, List.setIfInBounds_toArray, List.set_cons_zero, List.set_cons_succ]
            refine wpAnyH_take (i := 15) (oi := ⟨some 30, _, _, _, _, _⟩) (v := undef) rfl (by kernel_rfl) (by kernel_rfl) (by kernel_rfl) (fun _ _ _ h => h) (Or.inr ⟨by rfl, rfl⟩) (by assumption) ?_
            try simp only [Act.put, List.setIfInBounds_toArray, List.set_cons_zero, List.set_cons_succ]
            refine wpAnyH_take (i := 16) (oi := ⟨some 31, _, _, _, _, _⟩) (v := ?_) rfl (by kernel_rfl) (by kernel_rfl) (by kernel_rfl) (fun _ _ _ h => h) (Or.inl ⟨by rfl, ?_⟩) (by assumption) ?_
            rotate_left
            · (intro w9 hSw; (try dsimp only at hSw); go_simp; try with_reducible rfl)
            try simp only [Act.put, List.setIfInBounds_toArray, List.set_cons_zero, List.set_cons_succ]
            refine wpAnyH_done (by kernel_rfl) ?_ _
            obtain ⟨_, _, _, hbz⟩ := hb1S
            go_wp2
            go_ret
            rw [HR.out]
            exact ⟨rfl, bt HB0.out hbz⟩
        · obtain ⟨m, rfl⟩ : ∃ m, k = m + 1 := ⟨k - 1, by omega⟩
          obtain ⟨g', off', e, d0, d1, d2⟩ := (HA.out.later hb) m (by rw [HL.out]; omega)
          obtain ⟨rfl, rfl⟩ : g = g' ∧ off = off' := by injection e with e; injection e with e1 e2; exact ⟨e1, e2⟩
          have HK1 := Lib.hid (HK.out m (by omega))
          have HM := Lib.hid (HJ.out m (by omega))
          have HJ3 : Hid (EFol (L.getD m default) (L.getD (m + 1) default) → ∀ j, j < m + 1 + 1 → 0 < j → EFol (L.getD (j - 1) default) (L.getD j default)) := Lib.hid fun h j hj h0 => by
            by_cases e : j = m + 1
            · rw [e]; exact h
            · exact HJ2.out j (by omega) h0
          generalize L.getD (m + 1) default = x at *
          generalize L.getD m default = y at *
          have HF := Lib.hid (fun W => emay_any x W HU1.out.1 HU1.out.2.1 HU1.out.2.2.1 HU1.out.2.2.2)
          have HG := Lib.hid (fun W => efol_any y x W HM.out.1 (by have := HM.out.2.1; omega) (by have := HM.out.2.2.1; omega))
          have e0 : IntKind.i64.wrap (((m + 1 : Nat) : Int) - 1) = (m : Int) := by rw [IntKind.wrap_i64]; omega
          have e1 : (0 : Int) < ((m + 1 : Nat) : Int) := by omega
          have e5 : IntKind.i64.wrap ((m : Int) + 1 - 1) = (m : Int) := by rw [IntKind.wrap_i64]; omega
          have e6 : (0 : Int) < (m : Int) + 1 := by omega
          have e7 : IntKind.i64.wrap (m : Int) = (m : Int) := by rw [IntKind.wrap_i64]; omega
          have e2 : (0 : Int) ≤ (m : Int) := by omega
          have e3 : (m : Int) < (n : Int) := by omega
          by_cases hx : EOk x
          · rw [decide_eq_true hx] at HF
            by_cases hy : EFol y x
            · rw [decide_eq_true hy] at HG
              go_wp2_with fail
              have HB0 : Hid (Below w.heap.size w (wr.alloc (.cells #[.int .u64 x.f, .int .u64 x.n, .int .i64 x.s] 47))) := Lib.hid (ba hb _)
              have a0 : (wr.alloc (.cells #[.int .u64 x.f, .int .u64 x.n, .int .i64 x.s] 47)).cell? ⟨wr.heap.size, 0, none⟩ = some (.int .u64 x.f) := (Blk.new wr 47 #[.int .u64 x.f, .int .u64 x.n, .int .i64 x.s]).cell 0
              have a1 : (wr.alloc (.cells #[.int .u64 x.f, .int .u64 x.n, .int .i64 x.s] 47)).cell? ⟨wr.heap.size, 1, none⟩ = some (.int .u64 x.n) := (Blk.new wr 47 #[.int .u64 x.f, .int .u64 x.n, .int .i64 x.s]).cell 1
              have a2 : (wr.alloc (.cells #[.int .u64 x.f, .int .u64 x.n, .int .i64 x.s] 47)).cell? ⟨wr.heap.size, 2, none⟩ = some (.int .i64 x.s) := (Blk.new wr 47 #[.int .u64 x.f, .int .u64 x.n, .int .i64 x.s]).cell 2
              have b0 : (wr.alloc (.cells #[.int .u64 x.f, .int .u64 x.n, .int .i64 x.s] 47)).cell? ⟨g, off + m * 3, none⟩ = some (.int .u64 y.f) := ecell (ba (Below.refl _ _) _) d0
              have b1 : (wr.alloc (.cells #[.int .u64 x.f, .int .u64 x.n, .int .i64 x.s] 47)).cell? ⟨g, off + m * 3 + 1, none⟩ = some (.int .u64 y.n) := ecell (ba (Below.refl _ _) _) d1
              have b2 : (wr.alloc (.cells #[.int .u64 x.f, .int .u64 x.n, .int .i64 x.s] 47)).cell? ⟨g, off + m * 3 + 2, none⟩ = some (.int .i64 y.s) := ecell (ba (Below.refl _ _) _) d2
              generalize wr.alloc (.cells #[.int .u64 x.f, .int .u64 x.n, .int .i64 x.s] 47) = W0 at HB0 a0 a1 a2 b0 b1 b2 ⊢
              go_region_held3 (fun W => W.cell? ⟨wr.heap.size, 0, none⟩ = some (.int .u64 x.f) ∧ W.cell? ⟨wr.heap.size, 1, none⟩ = some (.int .u64 x.n) ∧ W.cell? ⟨wr.heap.size, 2, none⟩ = some (.int .i64 x.s) ∧ W.cell? ⟨g, off + m * 3, none⟩ = some (.int .u64 y.f) ∧ W.cell? ⟨g, off + m * 3 + 1, none⟩ = some (.int .u64 y.n) ∧ W.cell? ⟨g, off + m * 3 + 2, none⟩ = some (.int .i64 y.s) ∧ Below W0.heap.size W0 W) (first | assumption | exact ⟨a0, a1, a2, b0, b1, b2, (Below.refl _ _).drew⟩ | exact ⟨ea0, ea1, ea2, eb0, eb1, eb2, hbx⟩) (first | (go_at_call 23; refine (HF.out _).mono ?_; rintro e w1 ⟨rfl, hb1⟩; obtain ⟨ea0, ea1, ea2, eb0, eb1, eb2, hbx⟩ : w1.cell? ⟨wr.heap.size, 0, none⟩ = some (.int .u64 x.f) ∧ w1.cell? ⟨wr.heap.size, 1, none⟩ = some (.int .u64 x.n) ∧ w1.cell? ⟨wr.heap.size, 2, none⟩ = some (.int .i64 x.s) ∧ w1.cell? ⟨g, off + m * 3, none⟩ = some (.int .u64 y.f) ∧ w1.cell? ⟨g, off + m * 3 + 1, none⟩ = some (.int .u64 y.n) ∧ w1.cell? ⟨g, off + m * 3 + 2, none⟩ = some (.int .i64 y.s) ∧ Below W0.heap.size W0 w1 := ⟨ecell hb1 a0, ecell hb1 a1, ecell hb1 a2, ecell hb1 b0, ecell hb1 b1, ecell hb1 b2, bt ((Below.refl _ _).drew) hb1⟩) | (go_at_call 24; refine (HG.out _).mono ?_; rintro e w2 ⟨rfl, hb2⟩; have hb2S : w2.cell? ⟨wr.heap.size, 0, none⟩ = some (.int .u64 x.f) ∧ w2.cell? ⟨wr.heap.size, 1, none⟩ = some (.int .u64 x.n) ∧ w2.cell? ⟨wr.heap.size, 2, none⟩ = some (.int .i64 x.s) ∧ w2.cell? ⟨g, off + m * 3, none⟩ = some (.int .u64 y.f) ∧ w2.cell? ⟨g, off + m * 3 + 1, none⟩ = some (.int .u64 y.n) ∧ w2.cell? ⟨g, off + m * 3 + 2, none⟩ = some (.int .i64 y.s) ∧ Below W0.heap.size W0 w2 := ⟨ecell hb2 ea0, ecell hb2 ea1, ecell hb2 ea2, ecell hb2 eb0, ecell hb2 eb1, ecell hb2 eb2, bt hbx hb2⟩))
              obtain ⟨_, _, _, _, _, _, hbz⟩ := hb2S
              go_wp2
              exact ⟨⟨m + 1 + 1, by omega, by go_num, Lib.hid (HJ1.out hx), Lib.hid (HJ3.out hy), bt HB0.out hbz⟩, by simp [intOf]; omega⟩
            · rw [decide_eq_false hy] at HG
              have HR := Lib.hid (HK1.out hy)
              go_wp2_with fail
              have HB0 : Hid (Below w.heap.size w (wr.alloc (.cells #[.int .u64 x.f, .int .u64 x.n, .int .i64 x.s] 47))) := Lib.hid (ba hb _)
              have a0 : (wr.alloc (.cells #[.int .u64 x.f, .int .u64 x.n, .int .i64 x.s] 47)).cell? ⟨wr.heap.size, 0, none⟩ = some (.int .u64 x.f) := (Blk.new wr 47 #[.int .u64 x.f, .int .u64 x.n, .int .i64 x.s]).cell 0
              have a1 : (wr.alloc (.cells #[.int .u64 x.f, .int .u64 x.n, .int .i64 x.s] 47)).cell? ⟨wr.heap.size, 1, none⟩ = some (.int .u64 x.n) := (Blk.new wr 47 #[.int .u64 x.f, .int .u64 x.n, .int .i64 x.s]).cell 1
              have a2 : (wr.alloc (.cells #[.int .u64 x.f, .int .u64 x.n, .int .i64 x.s] 47)).cell? ⟨wr.heap.size, 2, none⟩ = some (.int .i64 x.s) := (Blk.new wr 47 #[.int .u64 x.f, .int .u64 x.n, .int .i64 x.s]).cell 2
              have b0 : (wr.alloc (.cells #[.int .u64 x.f, .int .u64 x.n, .int .i64 x.s] 47)).cell? ⟨g, off + m * 3, none⟩ = some (.int .u64 y.f) := ecell (ba (Below.refl _ _) _) d0
              have b1 : (wr.alloc (.cells #[.int .u64 x.f, .int .u64 x.n, .int .i64 x.s] 47)).cell? ⟨g, off + m * 3 + 1, none⟩ = some (.int .u64 y.n) := ecell (ba (Below.refl _ _) _) d1
              have b2 : (wr.alloc (.cells #[.int .u64 x.f, .int .u64 x.n, .int .i64 x.s] 47)).cell? ⟨g, off + m * 3 + 2, none⟩ = some (.int .i64 y.s) := ecell (ba (Below.refl _ _) _) d2
              generalize wr.alloc (.cells #[.int .u64 x.f, .int .u64 x.n, .int .i64 x.s] 47) = W0 at HB0 a0 a1 a2 b0 b1 b2 ⊢
              go_region_held3 (fun W => W.cell? ⟨wr.heap.size, 0, none⟩ = some (.int .u64 x.f) ∧ W.cell? ⟨wr.heap.size, 1, none⟩ = some (.int .u64 x.n) ∧ W.cell? ⟨wr.heap.size, 2, none⟩ = some (.int .i64 x.s) ∧ W.cell? ⟨g, off + m * 3, none⟩ = some (.int .u64 y.f) ∧ W.cell? ⟨g, off + m * 3 + 1, none⟩ = some (.int .u64 y.n) ∧ W.cell? ⟨g, off + m * 3 + 2, none⟩ = some (.int .i64 y.s) ∧ Below W0.heap.size W0 W) (first | assumption | exact ⟨a0, a1, a2, b0, b1, b2, (Below.refl _ _).drew⟩ | exact ⟨ea0, ea1, ea2, eb0, eb1, eb2, hbx⟩) (first | (go_at_call 23; refine (HF.out _).mono ?_; rintro e w1 ⟨rfl, hb1⟩; obtain ⟨ea0, ea1, ea2, eb0, eb1, eb2, hbx⟩ : w1.cell? ⟨wr.heap.size, 0, none⟩ = some (.int .u64 x.f) ∧ w1.cell? ⟨wr.heap.size, 1, none⟩ = some (.int .u64 x.n) ∧ w1.cell? ⟨wr.heap.size, 2, none⟩ = some (.int .i64 x.s) ∧ w1.cell? ⟨g, off + m * 3, none⟩ = some (.int .u64 y.f) ∧ w1.cell? ⟨g, off + m * 3 + 1, none⟩ = some (.int .u64 y.n) ∧ w1.cell? ⟨g, off + m * 3 + 2, none⟩ = some (.int .i64 y.s) ∧ Below W0.heap.size W0 w1 := ⟨ecell hb1 a0, ecell hb1 a1, ecell hb1 a2, ecell hb1 b0, ecell hb1 b1, ecell hb1 b2, bt ((Below.refl _ _).drew) hb1⟩) | (go_at_call 24; refine (HG.out _).mono ?_; rintro e w2 ⟨rfl, hb2⟩; have hb2S : w2.cell? ⟨wr.heap.size, 0, none⟩ = some (.int .u64 x.f) ∧ w2.cell? ⟨wr.heap.size, 1, none⟩ = some (.int .u64 x.n) ∧ w2.cell? ⟨wr.heap.size, 2, none⟩ = some (.int .i64 x.s) ∧ w2.cell? ⟨g, off + m * 3, none⟩ = some (.int .u64 y.f) ∧ w2.cell? ⟨g, off + m * 3 + 1, none⟩ = some (.int .u64 y.n) ∧ w2.cell? ⟨g, off + m * 3 + 2, none⟩ = some (.int .i64 y.s) ∧ Below W0.heap.size W0 w2 := ⟨ecell hb2 ea0, ecell hb2 ea1, ecell hb2 ea2, ecell hb2 eb0, ecell hb2 eb1, ecell hb2 eb2, bt hbx hb2⟩))
              obtain ⟨_, _, _, _, _, _, hbz⟩ := hb2S
              go_wp2
              go_ret
              rw [HR.out]
              exact ⟨rfl, bt HB0.out hbz⟩
          · rw [decide_eq_false hx] at HF
            have HR := Lib.hid (HV1.out hx)
            go_wp2_with fail
            have HB0 : Hid (Below w.heap.size w (wr.alloc (.cells #[.int .u64 x.f, .int .u64 x.n, .int .i64 x.s] 47))) := Lib.hid (ba hb _)
            have a0 : (wr.alloc (.cells #[.int .u64 x.f, .int .u64 x.n, .int .i64 x.s] 47)).cell? ⟨wr.heap.size, 0, none⟩ = some (.int .u64 x.f) := (Blk.new wr 47 #[.int .u64 x.f, .int .u64 x.n, .int .i64 x.s]).cell 0
            have a1 : (wr.alloc (.cells #[.int .u64 x.f, .int .u64 x.n, .int .i64 x.s] 47)).cell? ⟨wr.heap.size, 1, none⟩ = some (.int .u64 x.n) := (Blk.new wr 47 #[.int .u64 x.f, .int .u64 x.n, .int .i64 x.s]).cell 1
            have a2 : (wr.alloc (.cells #[.int .u64 x.f, .int .u64 x.n, .int .i64 x.s] 47)).cell? ⟨wr.heap.size, 2, none⟩ = some (.int .i64 x.s) := (Blk.new wr 47 #[.int .u64 x.f, .int .u64 x.n, .int .i64 x.s]).cell 2
            generalize wr.alloc (.cells #[.int .u64 x.f, .int .u64 x.n, .int .i64 x.s] 47) = W0 at HB0 a0 a1 a2 ⊢
            refine wp_region_held_drew (S := fun W => W.cell? ⟨wr.heap.size, 0, none⟩ = some (.int .u64 x.f) ∧ W.cell? ⟨wr.heap.size, 1, none⟩ = some (.int .u64 x.n) ∧ W.cell? ⟨wr.heap.size, 2, none⟩ = some (.int .i64 x.s) ∧ Below W0.heap.size W0 W) (by kernel_rfl) ⟨a0, a1, a2, (Below.refl _ _).drew⟩ (fun hHeld => ?_)
            refine wpAnyH_take (i := 0) (oi := ⟨some 15, _, _, _, _, _⟩) (v := .agg #[.int .u64 x.f, .int .u64 x.n, .int .i64 x.s]) rfl (by kernel_rfl) (by kernel_rfl) (by kernel_rfl) (fun _ _ _ h => h) (Or.inl ⟨by rfl, ?_⟩) (by assumption) ?_
            · (intro w9 hSw; obtain ⟨q0, q1, q2, _⟩ := hSw; (try dsimp only at hSw); go_simp; try with_reducible rfl)
            try simp only [Act.put, List.setIfInBounds_toArray, List.set_cons_zero, List.set_cons_succ]
            refine wpAnyH_ready (rs := [1]) (by kernel_rfl) (by simp) ?_
            refine AllReadyH.cons (o := ⟨some 16, _, _, _, _, _⟩) rfl (fun K9 hK9 => ?_) AllReadyH.nil
            go_simp; go_at_call 23
            refine (HF.out _).mono ?_
            rintro e w1 ⟨rfl, hb1⟩
            have hb1S : w1.cell? ⟨wr.heap.size, 0, none⟩ = some (.int .u64 x.f) ∧ w1.cell? ⟨wr.heap.size, 1, none⟩ = some (.int .u64 x.n) ∧ w1.cell? ⟨wr.heap.size, 2, none⟩ = some (.int .i64 x.s) ∧ Below W0.heap.size W0 w1 := ⟨ecell hb1 a0, ecell hb1 a1, ecell hb1 a2, bt ((Below.refl _ _).drew) hb1⟩
            refine hK9.out _ _ ?_ (fun hHeld => ?_)
            · exact hb1S
            clear hK9 K9
            try simp only [Act.put, List.setIfInBounds_toArray, List.set_cons_zero, List.set_cons_succ]
            refine wpAnyH_take (i := 2) (oi := ⟨some 17, _, _, _, _, _⟩) (v := ?_) rfl (by kernel_rfl) (by kernel_rfl) (by kernel_rfl) (fun _ _ _ h => h) (Or.inl ⟨by rfl, ?_⟩) (by assumption) ?_
            rotate_left
            · (intro w9 hSw; (try dsimp only at hSw); go_simp; try with_reducible rfl)
            try simp only [Act.put, List.setIfInBounds_toArray, List.set_cons_zero, List.set_cons_succ]
            refine wpAnyH_take (i := 3) (oi := ⟨some 18, _, _, _, _, _⟩) (v := ?_) rfl (by kernel_rfl) (by kernel_rfl) (by kernel_rfl) (fun _ _ _ h => h) (Or.inl ⟨by rfl, ?_⟩) (by assumption) ?_
            rotate_left
            · (intro w9 hSw; (try dsimp only at hSw); go_simp; try with_reducible rfl)
            try simp only [Act.put, List.setIfInBounds_toArray, List.set_cons_zero, List.set_cons_succ]
            refine wpAnyH_take (i := 4) (oi := ⟨some 19, _, _, _, _, _⟩) (v := undef) rfl (by kernel_rfl) (by kernel_rfl) (by kernel_rfl) (fun _ _ _ h => h) (Or.inr ⟨by rfl, rfl⟩) (by assumption) ?_
            try simp only [Act.put, List.setIfInBounds_toArray, List.set_cons_zero, List.set_cons_succ]
            refine wpAnyH_take (i := 5) (oi := ⟨some 20, _, _, _, _, _⟩) (v := undef) rfl (by kernel_rfl) (by kernel_rfl) (by kernel_rfl) (fun _ _ _ h => h) (Or.inr ⟨by rfl, rfl⟩) (by assumption) ?_
            try simp only [Act.put, List.setIfInBounds_toArray, List.set_cons_zero, List.set_cons_succ]
            refine wpAnyH_take (i := 6) (oi := ⟨some 21, _, _, _, _, _⟩) (v := undef) rfl (by kernel_rfl) (by kernel_rfl) (by kernel_rfl) (fun _ _ _ h => h) (Or.inr ⟨by rfl, rfl⟩) (by assumption) ?_
            try simp only [Act.put, List.setIfInBounds_toArray, List.set_cons_zero, List.set_cons_succ]
            refine wpAnyH_take (i := 7) (oi := ⟨some 22, _, _, _, _, _⟩) (v := undef) rfl (by kernel_rfl) (by kernel_rfl) (by kernel_rfl) (fun _ _ _ h => h) (Or.inr ⟨by rfl, rfl⟩) (by assumption) ?_
            try simp only [Act.put, List.setIfInBounds_toArray, List.set_cons_zero, List.set_cons_succ]
            refine wpAnyH_take (i := 8) (oi := ⟨some 23, _, _, _, _, _⟩) (v := undef) rfl (by kernel_rfl) (by kernel_rfl) (by kernel_rfl) (fun _ _ _ h => h) (Or.inr ⟨by rfl, rfl⟩) (by assumption) ?_
            try simp only [Act.put, List.setIfInBounds_toArray, List.set_cons_zero, List.set_cons_succ]
            refine wpAnyH_take (i := 9) (oi := ⟨some 24, _, _, _, _, _⟩) (v := undef) rfl (by kernel_rfl) (by kernel_rfl) (by kernel_rfl) (fun _ _ _ h => h) (Or.inr ⟨by rfl, rfl⟩) (by assumption) ?_
            try simp only [Act.put, List.setIfInBounds_toArray, List.set_cons_zero, List.set_cons_succ]
            refine wpAnyH_take (i := 10) (oi := ⟨some 25, _, _, _, _, _⟩) (v := undef) rfl (by kernel_rfl) (by kernel_rfl) (by kernel_rfl) (fun _ _ _ h => h) (Or.inr ⟨by rfl, rfl⟩) (by assumption) ?_
            try simp only [Act.put, List.setIfInBounds_toArray, List.set_cons_zero, List.set_cons_succ]
            refine wpAnyH_take (i := 11) (oi := ⟨some 26, _, _, _, _, _⟩) (v := undef) rfl (by kernel_rfl) (by kernel_rfl) (by kernel_rfl) (fun _ _ _ h => h) (Or.inr ⟨by rfl, rfl⟩) (by assumption) ?_
            try simp only [Act.put, List.setIfInBounds_toArray, List.set_cons_zero, List.set_cons_succ]
            refine wpAnyH_take (i := 12) (oi := ⟨some 27, _, _, _, _, _⟩) (v := undef) rfl (by kernel_rfl) (by kernel_rfl) (by kernel_rfl) (fun _ _ _ h => h) (Or.inr ⟨by rfl, rfl⟩) (by assumption) ?_
            try simp only [Act.put, List.setIfInBounds_toArray, List.set_cons_zero, List.set_cons_succ]
            refine wpAnyH_take (i := 13) (oi := ⟨some 28, _, _, _, _, _⟩) (v := undef) rfl (by kernel_rfl) (by kernel_rfl) (by kernel_rfl) (fun _ _ _ h => h) (Or.inr ⟨by rfl, rfl⟩) (by assumption) ?_
            try simp only [Act.put, List.setIfInBounds_toArray, List.set_cons_zero, List.set_cons_succ]
            refine wpAnyH_take (i := 14) (oi := ⟨some 29, _, _, _, _, _⟩) (v := undef) rfl (by kernel_rfl) (by kernel_rfl) (by kernel_rfl) (fun _ _ _ h => h) (Or.inr ⟨by rfl, rfl⟩) (by assumption) ?_
            try simp only [Act.put, List.setIfInBounds_toArray, List.set_cons_zero, List.set_cons_succ]
            refine wpAnyH_take (i := 15) (oi := ⟨some 30, _, _, _, _, _⟩) (v := undef) rfl (by kernel_rfl) (by kernel_rfl) (by kernel_rfl) (fun _ _ _ h => h) (Or.inr ⟨by rfl, rfl⟩) (by assumption) ?_
            try simp only [Act.put, List.setIfInBounds_toArray, List.set_cons_zero, List.set_cons_succ]
            refine wpAnyH_take (i := 16) (oi := ⟨some 31, _, _, _, _, _⟩) (v := ?_) rfl (by kernel_rfl) (by kernel_rfl) (by kernel_rfl) (fun _ _ _ h => h) (Or.inl ⟨by rfl, ?_⟩) (by assumption) ?_
            rotate_left
            · (intro w9 hSw; (try dsimp only at hSw); go_simp; try with_reducible rfl)
            try simp only [Act.put, List.setIfInBounds_toArray, List.set_cons_zero, List.set_cons_succ]
            refine wpAnyH_done (by kernel_rfl) ?_ _
            obtain ⟨_, _, _, hbz⟩ := hb1S
            go_wp2
            go_ret
            rw [HR.out]
            exact ⟨rfl, bt HB0.out hbz⟩
      · obtain rfl : k = n := by omega
        have HR := Lib.hid (HY.out HJ.out HJ2.out)
        go_wp2
        go_ret
        rw [HR.out]
        exact ⟨rfl, hb⟩
  · have h1 : ¬ ERt L := fun h => by have := h.1; omega
    rw [decide_eq_false h1]
    clear h1 hA hl hu
    go_enter Try.func10, Try.ntmps10
    go_wp2
    go_ret
    exact ⟨rfl, Below.refl _ _⟩
end Go.Proofs.Ythimnpiiehggnaa
