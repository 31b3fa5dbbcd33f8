/- Texts of this seat, one behind the other: NLeaf, NRight. -/
import Derived.Test.YtbecambkjmheiaaQ03
import Derived.Test.YtbecambkjmheiaaQ05
/- The contracts of mayBe, zeros, bytesOf, placeOf, isWhole and cellAt. -/
namespace Go.Proofs.Ytbecambkjmheiaa
open Go.RowKit

set_option maxRecDepth 100000 in
set_option maxHeartbeats 1000000 in
theorem nmay_any (c : CL) (w : World) : Calls Try.prog 37 #[cv c] w fun e w' => e = .returned (.bool (decide (COk c))) ∧ Below w.heap.size w w' := by
  obtain ⟨n, s, d⟩ := c
  have hd := size_mk d
  by_cases h1 : n < 576460752303423488
  · by_cases h2 : s = 1
    · subst h2
      have e : decide (COk ⟨n, 1, d⟩) = decide ((d.length : Int) = 32) := by
        simp only [COk, decide_eq_decide]; simp [h1]; omega
      rw [e]
      have h1' : ¬ (576460752303423488 : Int) ≤ (n : Int) := by omega
      clear h1 e
      show Calls Try.prog 37 #[.agg #[.int .u64 (n : Int), .int .i64 1, .string ⟨d.toArray⟩]] w _
      generalize (n : Int) = x at *
      go_enter Try.func37, Try.ntmps37
      go_wp2
      go_ret
      exact ⟨rfl, ba (Below.refl _ _) _⟩
    · by_cases h3 : s = 2
      · subst h3
        have e : decide (COk ⟨n, 2, d⟩) = d.isEmpty := by
          cases d <;> simp [COk, h1]
        rw [e]
        have h1' : ¬ (576460752303423488 : Int) ≤ (n : Int) := by omega
        clear h1 e
        show Calls Try.prog 37 #[.agg #[.int .u64 (n : Int), .int .i64 2, .string ⟨d.toArray⟩]] w _
        generalize (n : Int) = x at *
        go_enter Try.func37, Try.ntmps37
        go_wp2
        go_ret
        exact ⟨rfl, ba (Below.refl _ _) _⟩
      · have e : decide (COk ⟨n, s, d⟩) = false := by
          simp only [COk]; simp [h2, h3]
        rw [e]
        have h1' : ¬ (576460752303423488 : Int) ≤ (n : Int) := by omega
        clear h1 e
        show Calls Try.prog 37 #[.agg #[.int .u64 (n : Int), .int .i64 s, .string ⟨d.toArray⟩]] w _
        generalize (n : Int) = x at *
        go_enter Try.func37, Try.ntmps37
        go_wp2
        go_ret
        exact ⟨rfl, ba (Below.refl _ _) _⟩
  · have e : decide (COk ⟨n, s, d⟩) = false := by
      simp only [COk]; simp [h1]
    rw [e]
    have h1' : (576460752303423488 : Int) ≤ (n : Int) := by omega
    clear h1 e
    show Calls Try.prog 37 #[.agg #[.int .u64 (n : Int), .int .i64 s, .string ⟨d.toArray⟩]] w _
    generalize (n : Int) = x at *
    go_enter Try.func37, Try.ntmps37
    go_wp2
    go_ret
    exact ⟨rfl, ba (Below.refl _ _) _⟩

set_option maxRecDepth 100000 in
set_option maxHeartbeats 1000000 in
theorem nzeros_any (n : Nat) (w : World) (h : n ≤ 5000) : Calls Try.prog 48 #[.int .i64 (n : Int)] w fun e w' => e = .returned (sv (List.replicate n 0)) ∧ Below w.heap.size w w' := by
  have HR := Lib.hid (fun W => rep_any n W h)
  go_enter Try.func48, Try.ntmps48
  go_wp2_with fail
  refine (HR.out _).mono ?_
  rintro e w1 ⟨rfl, hb⟩
  go_wp2
  go_ret
  exact ⟨rfl, hb⟩

set_option maxRecDepth 100000 in
set_option maxHeartbeats 1000000 in
theorem nbytes_any (c : CL) (w : World) : Calls Try.prog 33 #[cv c] w fun e w' => e = .returned (sv (cbytes c)) ∧ Below w.heap.size w w' := by
  obtain ⟨n, s, d⟩ := c
  by_cases h : s = 1
  · subst h
    have e : cbytes ⟨n, 1, d⟩ = d := by simp [cbytes]
    rw [e]
    go_enter Try.func33, Try.ntmps33
    go_wp2
    go_ret
    exact ⟨rfl, ba (Below.refl _ _) _⟩
  · have HZ := Lib.hid (fun W => nzeros_any 32 W (by omega))
    have e : cbytes ⟨n, s, d⟩ = List.replicate 32 0 := by simp [cbytes, h]
    rw [e]
    generalize List.replicate 32 (0 : UInt8) = Z at *
    go_enter Try.func33, Try.ntmps33
    go_wp2_with fail
    refine (HZ.out _).mono ?_
    rintro e w1 ⟨rfl, hb⟩
    go_wp2
    go_ret
    exact ⟨rfl, bt (ba (Below.refl _ _) _) hb⟩

set_option maxRecDepth 100000 in
set_option maxHeartbeats 1000000 in
theorem nplace_any (f l : Nat) (w : World) (h : f < 18446744073709551616) : Calls Try.prog 35 #[.agg #[vu f, vu l]] w fun e w' => e = .returned (vu (f % 32)) ∧ Below w.heap.size w w' := by
  have hm : IntKind.u64.wrap ((f : Int).tmod 32) = ((f % 32 : Nat) : Int) := by
    rw [Int.tmod_eq_emod_of_nonneg (by omega)]
    rw [IntWalk.u64_in _ ⟨by omega, by omega⟩]
    omega
  have hm2 : vu (f % 32) = .int .u64 ((f : Int) % 32) := by simp
  rw [hm2]
  clear hm hm2
  have h2 : (f : Int) < 18446744073709551616 := by omega
  have h3 : (0 : Int) ≤ (f : Int) := by omega
  clear h
  show Calls Try.prog 35 #[.agg #[.int .u64 (f : Int), vu l]] w _
  generalize (f : Int) = x at *
  go_enter Try.func35, Try.ntmps35
  go_wp2
  go_ret
  exact ⟨rfl, ba (Below.refl _ _) _⟩

set_option maxRecDepth 100000 in
set_option maxHeartbeats 1000000 in
theorem nwhole_any (f l : Nat) (w : World) : Calls Try.prog 27 #[.agg #[vu f, vu l]] w fun e w' => e = .returned (.bool (decide (l = 32))) ∧ Below w.heap.size w w' := by
  have hm : decide ((l : Int) = 32) = decide (l = 32) := by simp only [decide_eq_decide]; omega
  rw [← hm]
  go_enter Try.func27, Try.ntmps27
  go_wp2
  go_ret
  exact ⟨rfl, ba (Below.refl _ _) _⟩

set_option maxRecDepth 100000 in
set_option maxHeartbeats 2000000 in
theorem ncellAt_any (A : Option Addr) (n c k : Nat) (L : List CL) (w : World) (hA : CR w A L) (hl : L.length = n) (hu : CUp L) (hn : n ≤ 65536) :
    Calls Try.prog 34 #[.slice A n c, vu k] w fun e w' => e = .returned (cv (cAt L k)) ∧ Below w.heap.size w w' := by
  have HF := Lib.hid (fun W (hb : Below w.heap.size w W) => nfind_any A n c k L W (hA.later hb) hl hu hn)
  have HY : Hid (∀ p b, CPos L k p → (b = true ↔ p < n ∧ nk L p = k) → b = true → p < n ∧ cAt L k = L.getD p default) := Lib.hid fun p b h1 h2 h3 => by
    have h4 := h2.1 h3
    exact ⟨h4.1, h1.at_in hu (by omega) h4.2⟩
  have HN : Hid (∀ p b, CPos L k p → (b = true ↔ p < n ∧ nk L p = k) → b = false → cAt L k = cHole k) := Lib.hid fun p b h1 h2 h3 =>
    h1.at_out hu (fun h => by rw [h2.2 ⟨by omega, h.2⟩] at h3; cases h3)
  have HA := Lib.hid hA
  have HL := Lib.hid hl
  clear hA hl hu
  generalize hC : cAt L k = C
  have HC := Lib.hid hC
  clear hC
  go_enter Try.func34, Try.ntmps34
  go_wp2_with fail
  refine (HF.out _ (ba (Below.refl _ _) _)).mono ?_
  rintro e w1 ⟨p, b, hp, hq, rfl, hb⟩
  have R0 := At.later (v := .int .u64 0) (b := w.heap.size) (o := 0) ⟨by go_simp, by go_simp⟩ hb
  have R1 := At.later (v := .int .i64 0) (b := w.heap.size) (o := 1) ⟨by go_simp, by go_simp⟩ hb
  have R2 := At.later (v := .string ⟨#[]⟩) (b := w.heap.size) (o := 2) ⟨by go_simp, by go_simp⟩ hb
  have z1 : w.heap.size < w1.heap.size := by have := hb.size; simp at this; omega
  have HB := Lib.hid (bt (ba (Below.refl w.heap.size w) _) hb)
  cases b with
  | true =>
    obtain ⟨hpn, he⟩ := HY.out p true hp hq rfl
    rw [HC.out] at he
    obtain ⟨g, off, rfl, c0, c1, c2⟩ := (HA.out.later HB.out) p (by rw [HL.out]; omega)
    rw [← he] at c0 c1 c2
    have i0 : (0 : Int) ≤ (p : Int) := by omega
    have i1 : (p : Int) < (n : Int) := by omega
    obtain ⟨r0, s0⟩ := R0
    obtain ⟨r1, s1⟩ := R1
    obtain ⟨r2, s2⟩ := R2
    clear he hp hq hb
    go_wp2
    refine bodyPost_ret (v := cv C) (by simp [results, Try.results34, go_sem, r0, r1, r2]) rfl ⟨rfl, ?_⟩
    exact bs (bs (bs HB.out (by omega) _) (by omega) _) (by omega) _
  | false =>
    have he := HN.out p false hp hq rfl
    rw [HC.out] at he
    subst he
    obtain ⟨r0, s0⟩ := R0
    obtain ⟨r1, s1⟩ := R1
    obtain ⟨r2, s2⟩ := R2
    clear hp hq hb
    go_wp2
    refine bodyPost_ret (v := cv (cHole k)) (by simp [results, Try.results34, go_sem, r0, r1, r2, cHole]) rfl ⟨rfl, ?_⟩
    exact bs (bs (bs HB.out (by omega) _) (by omega) _) (by omega) _
end Go.Proofs.Ytbecambkjmheiaa
/- The contract of Right. -/
namespace Go.Proofs.Ytbecambkjmheiaa
open Go.RowKit

set_option maxRecDepth 100000 in
set_option maxHeartbeats 4000000 in
theorem nright_any (A : Option Addr) (n c : Nat) (L : List CL) (w : World) (hA : CR w A L) (hl : L.length = n) (hn : n ≤ 65536) :
    Calls Try.prog 14 #[.slice A n c] w fun e w' => e = .returned (.bool (decide (CRt L))) ∧ Below w.heap.size w w' := by
  by_cases h64 : n ≤ 64
  · have HA := Lib.hid hA
    have HV : Hid (∀ j, j < n → ¬ COk (L.getD j default) → decide (CRt L) = false) := Lib.hid fun j hj h => decide_eq_false fun hr => h (hr.2.1 j (by omega))
    have HK : Hid (∀ j, j + 1 < n → ¬ (L.getD j default).n < (L.getD (j + 1) default).n → decide (CRt L) = false) := Lib.hid fun j hj h => decide_eq_false fun hr => h (by have := hr.2.2 (j + 1) (by omega) (by omega); rwa [Nat.add_sub_cancel] at this)
    have HY : Hid ((∀ j, j < n → COk (L.getD j default)) → (∀ j, j < n → 0 < j → (L.getD (j - 1) default).n < (L.getD j default).n) → decide (CRt L) = true) := Lib.hid fun a b => decide_eq_true ⟨by omega, fun j hj => a j (by omega), fun j hj => b j (by omega)⟩
    have HL := Lib.hid hl
    generalize decide (CRt L) = R at HV HK HY ⊢
    clear hA hl
    go_enter Try.func14, Try.ntmps14
    go_wp2_with fail
    go_loopw [10] (fun iv wr => ∃ k : Nat, k ≤ n ∧ iv = .int .i64 k ∧ Hid (∀ j, j < k → COk (L.getD j default)) ∧ Hid (∀ j, j < k → 0 < j → (L.getD (j - 1) default).n < (L.getD j default).n) ∧ Below w.heap.size w wr) (fun i _ => n - (intOf i).toNat)
    case atStart => exact ⟨0, Nat.zero_le _, rfl, Lib.hid (fun j hj => by omega), Lib.hid (fun j hj => by omega), Below.refl _ _⟩
    case round =>
      obtain ⟨k, hk, rfl, HJ, HJ2, hb⟩ := hrel
      by_cases hlt : k < n
      · obtain ⟨g, off, rfl, c0, c1, c2⟩ := (HA.out.later hb) k (by rw [HL.out]; exact hlt)
        have HV1 := Lib.hid (HV.out k hlt)
        have i0 : (0 : Int) ≤ (k : Int) := by omega
        have i1 : (k : Int) < (n : Int) := by omega
        have HJ1 : Hid (COk (L.getD k default) → ∀ j, j < k + 1 → COk (L.getD j default)) := Lib.hid fun h j hj => by
          by_cases e : j = k
          · rw [e]; exact h
          · exact HJ.out j (by omega)
        rcases Nat.eq_zero_or_pos k with rfl | hk0
        · have HJ3 : Hid (∀ j, j < 0 + 1 → 0 < j → (L.getD (j - 1) default).n < (L.getD j default).n) := Lib.hid fun j hj h0 => by omega
          generalize L.getD 0 default = x at *
          simp only [Nat.zero_mul, Nat.add_zero] at c0 c1 c2
          have HF := Lib.hid (fun W => nmay_any x W)
          have d0 : decide ((0 : Int) < 0) = false := by simp
          by_cases hx : COk x
          · rw [decide_eq_true hx] at HF
            go_wp2_with fail
            have HB0 : Hid (Below w.heap.size w (wr.alloc (.cells #[vu x.n, .int .i64 x.s, sv x.d] 45))) := Lib.hid (ba hb _)
            have a0 : (wr.alloc (.cells #[vu x.n, .int .i64 x.s, sv x.d] 45)).cell? ⟨wr.heap.size, 0, none⟩ = some (vu x.n) := (Blk.new wr 45 #[vu x.n, .int .i64 x.s, sv x.d]).cell 0
            have a1 : (wr.alloc (.cells #[vu x.n, .int .i64 x.s, sv x.d] 45)).cell? ⟨wr.heap.size, 1, none⟩ = some (.int .i64 x.s) := (Blk.new wr 45 #[vu x.n, .int .i64 x.s, sv x.d]).cell 1
            have a2 : (wr.alloc (.cells #[vu x.n, .int .i64 x.s, sv x.d] 45)).cell? ⟨wr.heap.size, 2, none⟩ = some (sv x.d) := (Blk.new wr 45 #[vu x.n, .int .i64 x.s, sv x.d]).cell 2
            generalize wr.alloc (.cells #[vu x.n, .int .i64 x.s, sv x.d] 45) = W0 at HB0 a0 a1 a2 ⊢
            refine wp_region_held_drew (S := fun W => W.cell? ⟨wr.heap.size, 0, none⟩ = some (vu x.n) ∧ W.cell? ⟨wr.heap.size, 1, none⟩ = some (.int .i64 x.s) ∧ W.cell? ⟨wr.heap.size, 2, none⟩ = some (sv x.d) ∧ Below W0.heap.size W0 W) (by kernel_rfl) ⟨a0, a1, a2, (Below.refl _ _).drew⟩ (fun hHeld => ?_)
            refine wpAnyH_take (i := 0) (oi := ⟨some 15, _, _, _, _, _⟩) (v := cv x) rfl (by kernel_rfl) (by kernel_rfl) (by kernel_rfl) (fun _ _ _ h => h) (Or.inl ⟨by rfl, ?_⟩) (by assumption) ?_
            · (intro w9 hSw; obtain ⟨q0, q1, q2, _⟩ := hSw; (try dsimp only at hSw); go_simp; try with_reducible rfl)
            try simp only [Act.put, List.setIfInBounds_toArray, List.set_cons_zero, List.set_cons_succ]
            refine wpAnyH_ready (rs := [1]) (by kernel_rfl) (by simp) ?_
            refine AllReadyH.cons (o := ⟨some 16, _, _, _, _, _⟩) rfl (fun K9 hK9 => ?_) AllReadyH.nil
            go_simp; go_at_call 37
            refine (HF.out _).mono ?_
            rintro e w1 ⟨rfl, hb1⟩
            have hb1S : w1.cell? ⟨wr.heap.size, 0, none⟩ = some (vu x.n) ∧ w1.cell? ⟨wr.heap.size, 1, none⟩ = some (.int .i64 x.s) ∧ w1.cell? ⟨wr.heap.size, 2, none⟩ = some (sv x.d) ∧ Below W0.heap.size W0 w1 := ⟨cell_later hb1 a0, cell_later hb1 a1, cell_later hb1 a2, bt ((Below.refl _ _).drew) hb1⟩
            refine hK9.out _ _ ?_ (fun hHeld => ?_)
            · exact hb1S
            clear hK9 K9
            try simp only [Act.put, List.setIfInBounds_toArray, List.set_cons_zero, List.set_cons_succ]
            refine wpAnyH_take (i := 2) (oi := ⟨some 17, _, _, _, _, _⟩) (v := ?_) rfl (by kernel_rfl) (by kernel_rfl) (by kernel_rfl) (fun _ _ _ h => h) (Or.inl ⟨by rfl, ?_⟩) (by assumption) ?_
            rotate_left
            · (intro w9 hSw; (try dsimp only at hSw); go_simp; try with_reducible rfl)
            try simp only [Act.put, List.setIfInBounds_toArray, List.set_cons_zero, List.set_cons_succ]
            refine wpAnyH_take (i := 3) (oi := ⟨some 18, _, _, _, _, _⟩) (v := ?_) rfl (by kernel_rfl) (by kernel_rfl) (by kernel_rfl) (fun _ _ _ h => h) (Or.inl ⟨by rfl, ?_⟩) (by assumption) ?_
            rotate_left
            · (intro w9 hSw; (try dsimp only at hSw); go_simp; try with_reducible rfl)
            try simp only [Act.put, List.setIfInBounds_toArray, List.set_cons_zero, List.set_cons_succ]
            refine wpAnyH_take (i := 4) (oi := ⟨some 19, _, _, _, _, _⟩) (v := ?_) rfl (by kernel_rfl) (by kernel_rfl) (by kernel_rfl) (fun _ _ _ h => h) (Or.inl ⟨by rfl, ?_⟩) (by assumption) ?_
            rotate_left
            · (intro w9 hSw; (try dsimp only at hSw); go_simp; try with_reducible rfl)
            try simp only [Act.put, List.setIfInBounds_toArray, List.set_cons_zero, List.set_cons_succ]
            refine wpAnyH_take (i := 5) (oi := ⟨some 20, _, _, _, _, _⟩) (v := ?_) rfl (by kernel_rfl) (by kernel_rfl) (by kernel_rfl) (fun _ _ _ h => h) (Or.inl ⟨by rfl, ?_⟩) (by assumption) ?_
            rotate_left
            · (intro w9 hSw; (try dsimp only at hSw); go_simp; try with_reducible rfl)
            try simp only [Act.put, List.setIfInBounds_toArray, List.set_cons_zero, List.set_cons_succ]
            refine wpAnyH_take (i := 6) (oi := ⟨some 21, _, _, _, _, _⟩) (v := ?_) rfl (by kernel_rfl) (by kernel_rfl) (by kernel_rfl) (fun _ _ _ h => h) (Or.inl ⟨by rfl, ?_⟩) (by assumption) ?_
            rotate_left
            · (intro w9 hSw; (try dsimp only at hSw); go_simp; try with_reducible rfl)
            try simp only [Act.put, List.setIfInBounds_toArray, List.set_cons_zero, List.set_cons_succ]
            refine wpAnyH_take (i := 7) (oi := ⟨some 22, _, _, _, _, _⟩) (v := undef) rfl (by kernel_rfl) (by kernel_rfl) (by kernel_rfl) (fun _ _ _ h => h) (Or.inr ⟨by rfl, rfl⟩) (by assumption) ?_
            try simp only [Act.put, List.setIfInBounds_toArray, List.set_cons_zero, List.set_cons_succ]
            refine wpAnyH_take (i := 8) (oi := ⟨some 23, _, _, _, _, _⟩) (v := undef) rfl (by kernel_rfl) (by kernel_rfl) (by kernel_rfl) (fun _ _ _ h => h) (Or.inr ⟨by rfl, rfl⟩) (by assumption) ?_
            try simp only [Act.put, List.setIfInBounds_toArray, List.set_cons_zero, List.set_cons_succ]
            refine wpAnyH_take (i := 9) (oi := ⟨some 24, _, _, _, _, _⟩) (v := undef) rfl (by kernel_rfl) (by kernel_rfl) (by kernel_rfl) (fun _ _ _ h => h) (Or.inr ⟨by rfl, rfl⟩) (by assumption) ?_
            try simp only [Act.put, List.setIfInBounds_toArray, List.set_cons_zero, List.set_cons_succ]
            refine wpAnyH_take (i := 10) (oi := ⟨some 25, _, _, _, _, _⟩) (v := undef) rfl (by kernel_rfl) (by kernel_rfl) (by kernel_rfl) (fun _ _ _ h => h) (Or.inr ⟨by rfl, rfl⟩) (by assumption) ?_
            try simp only [Act.put, List.setIfInBounds_toArray, List.set_cons_zero, List.set_cons_succ]
            refine wpAnyH_take (i := 11) (oi := ⟨some 26, _, _, _, _, _⟩) (v := undef) rfl (by kernel_rfl) (by kernel_rfl) (by kernel_rfl) (fun _ _ _ h => h) (Or.inr ⟨by rfl, rfl⟩) (by assumption) ?_
            try simp only [Act.put, List.setIfInBounds_toArray, List.set_cons_zero, List.set_cons_succ]
            refine wpAnyH_take (i := 12) (oi := ⟨some 27, _, _, _, _, _⟩) (v := undef) rfl (by kernel_rfl) (by kernel_rfl) (by kernel_rfl) (fun _ _ _ h => h) (Or.inr ⟨by rfl, rfl⟩) (by assumption) ?_
            try simp only [Act.put, List.setIfInBounds_toArray, List.set_cons_zero, List.set_cons_succ]
            refine wpAnyH_take (i := 13) (oi := ⟨some 28, _, _, _, _, _⟩) (v := undef) rfl (by kernel_rfl) (by kernel_rfl) (by kernel_rfl) (fun _ _ _ h => h) (Or.inr ⟨by rfl, rfl⟩) (by assumption) ?_
            try simp only [Act.put, List.setIfInBounds_toArray, List.set_cons_zero, List.set_cons_succ]
            refine wpAnyH_take (i := 14) (oi := ⟨some 29, _, _, _, _, _⟩) (v := undef) rfl (by kernel_rfl) (by kernel_rfl) (by kernel_rfl) (fun _ _ _ h => h) (Or.inr ⟨by rfl, rfl⟩) (by assumption) ?_
            try simp only [Act.put, List.setIfInBounds_toArray, List.set_cons_zero, List.set_cons_succ]
            refine wpAnyH_take (i := 15) (oi := ⟨some 30, _, _, _, _, _⟩) (v := undef) rfl (by kernel_rfl) (by kernel_rfl) (by kernel_rfl) (fun _ _ _ h => h) (Or.inr ⟨by rfl, rfl⟩) (by assumption) ?_
            try simp only [Act.put, List.setIfInBounds_toArray, List.set_cons_zero, List.set_cons_succ]
            refine wpAnyH_take (i := 16) (oi := ⟨some 31, _, _, _, _, _⟩) (v := ?_) rfl (by kernel_rfl) (by kernel_rfl) (by kernel_rfl) (fun _ _ _ h => h) (Or.inl ⟨by rfl, ?_⟩) (by assumption) ?_
            rotate_left
            · (intro w9 hSw; (try dsimp only at hSw); go_simp; try with_reducible rfl)
            try simp only [Act.put, List.setIfInBounds_toArray, List.set_cons_zero, List.set_cons_succ]
            refine wpAnyH_take (i := 17) (oi := ⟨some 32, _, _, _, _, _⟩) (v := ?_) rfl (by kernel_rfl) (by kernel_rfl) (by kernel_rfl) (fun _ _ _ h => h) (Or.inl ⟨by rfl, ?_⟩) (by assumption) ?_
            rotate_left
            · (intro w9 hSw; (try dsimp only at hSw); go_simp; try with_reducible rfl)
            try simp only [Act.put, List.setIfInBounds_toArray, List.set_cons_zero, List.set_cons_succ]
            refine wpAnyH_done (by kernel_rfl) ?_ _
            obtain ⟨_, _, _, hbz⟩ := hb1S
            go_wp2
            exact ⟨⟨1, by omega, by go_num, Lib.hid (HJ1.out hx), HJ3, bt HB0.out hbz⟩, by simp [intOf]; omega⟩
          · rw [decide_eq_false hx] at HF
            have HR := Lib.hid (HV1.out hx)
            go_wp2_with fail
            have HB0 : Hid (Below w.heap.size w (wr.alloc (.cells #[vu x.n, .int .i64 x.s, sv x.d] 45))) := Lib.hid (ba hb _)
            have a0 : (wr.alloc (.cells #[vu x.n, .int .i64 x.s, sv x.d] 45)).cell? ⟨wr.heap.size, 0, none⟩ = some (vu x.n) := (Blk.new wr 45 #[vu x.n, .int .i64 x.s, sv x.d]).cell 0
            have a1 : (wr.alloc (.cells #[vu x.n, .int .i64 x.s, sv x.d] 45)).cell? ⟨wr.heap.size, 1, none⟩ = some (.int .i64 x.s) := (Blk.new wr 45 #[vu x.n, .int .i64 x.s, sv x.d]).cell 1
            have a2 : (wr.alloc (.cells #[vu x.n, .int .i64 x.s, sv x.d] 45)).cell? ⟨wr.heap.size, 2, none⟩ = some (sv x.d) := (Blk.new wr 45 #[vu x.n, .int .i64 x.s, sv x.d]).cell 2
            generalize wr.alloc (.cells #[vu x.n, .int .i64 x.s, sv x.d] 45) = W0 at HB0 a0 a1 a2 ⊢
            refine wp_region_held_drew (S := fun W => W.cell? ⟨wr.heap.size, 0, none⟩ = some (vu x.n) ∧ W.cell? ⟨wr.heap.size, 1, none⟩ = some (.int .i64 x.s) ∧ W.cell? ⟨wr.heap.size, 2, none⟩ = some (sv x.d) ∧ Below W0.heap.size W0 W) (by kernel_rfl) ⟨a0, a1, a2, (Below.refl _ _).drew⟩ (fun hHeld => ?_)
            refine wpAnyH_take (i := 0) (oi := ⟨some 15, _, _, _, _, _⟩) (v := cv x) rfl (by kernel_rfl) (by kernel_rfl) (by kernel_rfl) (fun _ _ _ h => h) (Or.inl ⟨by rfl, ?_⟩) (by assumption) ?_
            · (intro w9 hSw; obtain ⟨q0, q1, q2, _⟩ := hSw; (try dsimp only at hSw); go_simp; try with_reducible rfl)
            try simp only [Act.put, List.setIfInBounds_toArray, List.set_cons_zero, List.set_cons_succ]
            refine wpAnyH_ready (rs := [1]) (by kernel_rfl) (by simp) ?_
            refine AllReadyH.cons (o := ⟨some 16, _, _, _, _, _⟩) rfl (fun K9 hK9 => ?_) AllReadyH.nil
            go_simp; go_at_call 37
            refine (HF.out _).mono ?_
            rintro e w1 ⟨rfl, hb1⟩
            have hb1S : w1.cell? ⟨wr.heap.size, 0, none⟩ = some (vu x.n) ∧ w1.cell? ⟨wr.heap.size, 1, none⟩ = some (.int .i64 x.s) ∧ w1.cell? ⟨wr.heap.size, 2, none⟩ = some (sv x.d) ∧ Below W0.heap.size W0 w1 := ⟨cell_later hb1 a0, cell_later hb1 a1, cell_later hb1 a2, bt ((Below.refl _ _).drew) hb1⟩
            refine hK9.out _ _ ?_ (fun hHeld => ?_)
            · exact hb1S
            clear hK9 K9
            try simp only [Act.put, List.setIfInBounds_toArray, List.set_cons_zero, List.set_cons_succ]
            refine wpAnyH_take (i := 2) (oi := ⟨some 17, _, _, _, _, _⟩) (v := ?_) rfl (by kernel_rfl) (by kernel_rfl) (by kernel_rfl) (fun _ _ _ h => h) (Or.inl ⟨by rfl, ?_⟩) (by assumption) ?_
            rotate_left
            · (intro w9 hSw; (try dsimp only at hSw); go_simp; try with_reducible rfl)
            try simp only [Act.put, List.setIfInBounds_toArray, List.set_cons_zero, List.set_cons_succ]
            refine wpAnyH_take (i := 3) (oi := ⟨some 18, _, _, _, _, _⟩) (v := ?_) rfl (by kernel_rfl) (by kernel_rfl) (by kernel_rfl) (fun _ _ _ h => h) (Or.inl ⟨by rfl, ?_⟩) (by assumption) ?_
            rotate_left
            · (intro w9 hSw; (try dsimp only at hSw); go_simp; try with_reducible rfl)
            try simp only [Act.put, List.setIfInBounds_toArray, List.set_cons_zero, List.set_cons_succ]
            refine wpAnyH_take (i := 4) (oi := ⟨some 19, _, _, _, _, _⟩) (v := undef) rfl (by kernel_rfl) (by kernel_rfl) (by kernel_rfl) (fun _ _ _ h => h) (Or.inr ⟨by rfl, rfl⟩) (by assumption) ?_
            try simp only [Act.put, List.setIfInBounds_toArray, List.set_cons_zero, List.set_cons_succ]
            refine wpAnyH_take (i := 5) (oi := ⟨some 20, _, _, _, _, _⟩) (v := undef) rfl (by kernel_rfl) (by kernel_rfl) (by kernel_rfl) (fun _ _ _ h => h) (Or.inr ⟨by rfl, rfl⟩) (by assumption) ?_
            try simp only [Act.put, List.setIfInBounds_toArray, List.set_cons_zero, List.set_cons_succ]
            refine wpAnyH_take (i := 6) (oi := ⟨some 21, _, _, _, _, _⟩) (v := undef) rfl (by kernel_rfl) (by kernel_rfl) (by kernel_rfl) (fun _ _ _ h => h) (Or.inr ⟨by rfl, rfl⟩) (by assumption) ?_
            try simp only [Act.put, List.setIfInBounds_toArray, List.set_cons_zero, List.set_cons_succ]
            refine wpAnyH_take (i := 7) (oi := ⟨some 22, _, _, _, _, _⟩) (v := undef) rfl (by kernel_rfl) (by kernel_rfl) (by kernel_rfl) (fun _ _ _ h => h) (Or.inr ⟨by rfl, rfl⟩) (by assumption) ?_
            try simp only [Act.put, List.setIfInBounds_toArray, List.set_cons_zero, List.set_cons_succ]
            refine wpAnyH_take (i := 8) (oi := ⟨some 23, _, _, _, _, _⟩) (v := undef) rfl (by kernel_rfl) (by kernel_rfl) (by kernel_rfl) (fun _ _ _ h => h) (Or.inr ⟨by rfl, rfl⟩) (by assumption) ?_
            try simp only [Act.put, List.setIfInBounds_toArray, List.set_cons_zero, List.set_cons_succ]
            refine wpAnyH_take (i := 9) (oi := ⟨some 24, _, _, _, _, _⟩) (v := undef) rfl (by kernel_rfl) (by kernel_rfl) (by kernel_rfl) (fun _ _ _ h => h) (Or.inr ⟨by rfl, rfl⟩) (by assumption) ?_
            try simp only [Act.put, List.setIfInBounds_toArray, List.set_cons_zero, List.set_cons_succ]
            refine wpAnyH_take (i := 10) (oi := ⟨some 25, _, _, _, _, _⟩) (v := undef) rfl (by kernel_rfl) (by kernel_rfl) (by kernel_rfl) (fun _ _ _ h => h) (Or.inr ⟨by rfl, rfl⟩) (by assumption) ?_
            try simp only [Act.put, List.setIfInBounds_toArray, List.set_cons_zero, List.set_cons_succ]
            refine wpAnyH_take (i := 11) (oi := ⟨some 26, _, _, _, _, _⟩) (v := undef) rfl (by kernel_rfl) (by kernel_rfl) (by kernel_rfl) (fun _ _ _ h => h) (Or.inr ⟨by rfl, rfl⟩) (by assumption) ?_
            try simp only [Act.put, List.setIfInBounds_toArray, List.set_cons_zero, List.set_cons_succ]
            refine wpAnyH_take (i := 12) (oi := ⟨some 27, _, _, _, _, _⟩) (v := undef) rfl (by kernel_rfl) (by kernel_rfl) (by kernel_rfl) (fun _ _ _ h => h) (Or.inr ⟨by rfl, rfl⟩) (by assumption) ?_
            try simp only [Act.put, List.setIfInBounds_toArray, List.set_cons_zero, List.set_cons_succ]
            refine wpAnyH_take (i := 13) (oi := ⟨some 28, _, _, _, _, _⟩) (v := undef) rfl (by kernel_rfl) (by kernel_rfl) (by kernel_rfl) (fun _ _ _ h => h) (Or.inr ⟨by rfl, rfl⟩) (by assumption) ?_
            try simp only [Act.put, List.setIfInBounds_toArray, List.set_cons_zero, List.set_cons_succ]
            refine wpAnyH_take (i := 14) (oi := ⟨some 29, _, _, _, _, _⟩) (v := undef) rfl (by kernel_rfl) (by kernel_rfl) (by kernel_rfl) (fun _ _ _ h => h) (Or.inr ⟨by rfl, rfl⟩) (by assumption) ?_
            try simp only [Act.put, List.setIfInBounds_toArray, List.set_cons_zero, List.set_cons_succ]
            refine wpAnyH_take (i := 15) (oi := ⟨some 30, _, _, _, _, _⟩) (v := undef) rfl (by kernel_rfl) (by kernel_rfl) (by kernel_rfl) (fun _ _ _ h => h) (Or.inr ⟨by rfl, rfl⟩) (by assumption) ?_
            try simp only [Act.put, List.setIfInBounds_toArray, List.set_cons_zero, List.set_cons_succ]
            refine wpAnyH_take (i := 16) (oi := ⟨some 31, _, _, _, _, _⟩) (v := undef) rfl (by kernel_rfl) (by kernel_rfl) (by kernel_rfl) (fun _ _ _ h => h) (Or.inr ⟨by rfl, rfl⟩) (by assumption) ?_
            try simp only [Act.put, List.setIfInBounds_toArray, List.set_cons_zero, List.set_cons_succ]
            refine wpAnyH_take (i := 17) (oi := ⟨some 32, _, _, _, _, _⟩) (v := ?_) rfl (by kernel_rfl) (by kernel_rfl) (by kernel_rfl) (fun _ _ _ h => h) (Or.inl ⟨by rfl, ?_⟩) (by assumption) ?_
            rotate_left
            · (intro w9 hSw; (try dsimp only at hSw); go_simp; try with_reducible rfl)
            try simp only [Act.put, List.setIfInBounds_toArray, List.set_cons_zero, List.set_cons_succ]
            refine wpAnyH_done (by kernel_rfl) ?_ _
            obtain ⟨_, _, _, hbz⟩ := hb1S
            go_wp2
            go_ret
            rw [HR.out]
            exact ⟨rfl, bt HB0.out hbz⟩
        · obtain ⟨m, rfl⟩ : ∃ m, k = m + 1 := ⟨k - 1, by omega⟩
          obtain ⟨g', off', e, d0, d1, d2⟩ := (HA.out.later hb) m (by rw [HL.out]; omega)
          obtain ⟨rfl, rfl⟩ : g = g' ∧ off = off' := by injection e with e; injection e with e1 e2; exact ⟨e1, e2⟩
          have HK1 := Lib.hid (HK.out m (by omega))
          have HJ3 : Hid ((L.getD m default).n < (L.getD (m + 1) default).n → ∀ j, j < m + 1 + 1 → 0 < j → (L.getD (j - 1) default).n < (L.getD j default).n) := Lib.hid fun h j hj h0 => by
            by_cases e : j = m + 1
            · rw [e]; exact h
            · exact HJ2.out j (by omega) h0
          generalize L.getD (m + 1) default = x at *
          generalize L.getD m default = y at *
          have HF := Lib.hid (fun W => nmay_any x W)
          have e0 : IntKind.i64.wrap (((m + 1 : Nat) : Int) - 1) = (m : Int) := by rw [IntKind.wrap_i64]; omega
          have e1 : (0 : Int) < ((m + 1 : Nat) : Int) := by omega
          have e5 : IntKind.i64.wrap ((m : Int) + 1 - 1) = (m : Int) := by rw [IntKind.wrap_i64]; omega
          have e6 : (0 : Int) < (m : Int) + 1 := by omega
          have e7 : IntKind.i64.wrap (m : Int) = (m : Int) := by rw [IntKind.wrap_i64]; omega
          have e2 : (0 : Int) ≤ (m : Int) := by omega
          have e3 : (m : Int) < (n : Int) := by omega
          by_cases hx : COk x
          · rw [decide_eq_true hx] at HF
            by_cases hy : y.n < x.n
            · have hy1 : ¬ ((x.n : Int) ≤ (y.n : Int)) := by omega
              have hy2 : ¬ (x.n ≤ y.n) := by omega
              go_wp2_with fail
              have HB0 : Hid (Below w.heap.size w (wr.alloc (.cells #[vu x.n, .int .i64 x.s, sv x.d] 45))) := Lib.hid (ba hb _)
              have a0 : (wr.alloc (.cells #[vu x.n, .int .i64 x.s, sv x.d] 45)).cell? ⟨wr.heap.size, 0, none⟩ = some (vu x.n) := (Blk.new wr 45 #[vu x.n, .int .i64 x.s, sv x.d]).cell 0
              have a1 : (wr.alloc (.cells #[vu x.n, .int .i64 x.s, sv x.d] 45)).cell? ⟨wr.heap.size, 1, none⟩ = some (.int .i64 x.s) := (Blk.new wr 45 #[vu x.n, .int .i64 x.s, sv x.d]).cell 1
              have a2 : (wr.alloc (.cells #[vu x.n, .int .i64 x.s, sv x.d] 45)).cell? ⟨wr.heap.size, 2, none⟩ = some (sv x.d) := (Blk.new wr 45 #[vu x.n, .int .i64 x.s, sv x.d]).cell 2
              have b0 : (wr.alloc (.cells #[vu x.n, .int .i64 x.s, sv x.d] 45)).cell? ⟨g, off + m * 3, none⟩ = some (vu y.n) := cell_later (ba (Below.refl _ _) _) d0
              generalize wr.alloc (.cells #[vu x.n, .int .i64 x.s, sv x.d] 45) = W0 at HB0 a0 a1 a2 b0 ⊢
              go_region_held3 (fun W => W.cell? ⟨wr.heap.size, 0, none⟩ = some (vu x.n) ∧ W.cell? ⟨wr.heap.size, 1, none⟩ = some (.int .i64 x.s) ∧ W.cell? ⟨wr.heap.size, 2, none⟩ = some (sv x.d) ∧ W.cell? ⟨g, off + m * 3, none⟩ = some (vu y.n) ∧ Below W0.heap.size W0 W) (first | assumption | exact ⟨a0, a1, a2, b0, (Below.refl _ _).drew⟩) (first | (go_at_call 37; refine (HF.out _).mono ?_; rintro e w1 ⟨rfl, hb1⟩; have hb1S : w1.cell? ⟨wr.heap.size, 0, none⟩ = some (vu x.n) ∧ w1.cell? ⟨wr.heap.size, 1, none⟩ = some (.int .i64 x.s) ∧ w1.cell? ⟨wr.heap.size, 2, none⟩ = some (sv x.d) ∧ w1.cell? ⟨g, off + m * 3, none⟩ = some (vu y.n) ∧ Below W0.heap.size W0 w1 := ⟨cell_later hb1 a0, cell_later hb1 a1, cell_later hb1 a2, cell_later hb1 b0, bt ((Below.refl _ _).drew) hb1⟩))
              obtain ⟨_, _, _, _, hbz⟩ := hb1S
              go_wp2
              exact ⟨⟨m + 1 + 1, by omega, by go_num, Lib.hid (HJ1.out hx), Lib.hid (HJ3.out hy), bt HB0.out hbz⟩, by simp [intOf]; omega⟩
            · have HR := Lib.hid (HK1.out hy)
              have hy1 : ((x.n : Int) ≤ (y.n : Int)) := by omega
              have hy2 : x.n ≤ y.n := by omega
              go_wp2_with fail
              have HB0 : Hid (Below w.heap.size w (wr.alloc (.cells #[vu x.n, .int .i64 x.s, sv x.d] 45))) := Lib.hid (ba hb _)
              have a0 : (wr.alloc (.cells #[vu x.n, .int .i64 x.s, sv x.d] 45)).cell? ⟨wr.heap.size, 0, none⟩ = some (vu x.n) := (Blk.new wr 45 #[vu x.n, .int .i64 x.s, sv x.d]).cell 0
              have a1 : (wr.alloc (.cells #[vu x.n, .int .i64 x.s, sv x.d] 45)).cell? ⟨wr.heap.size, 1, none⟩ = some (.int .i64 x.s) := (Blk.new wr 45 #[vu x.n, .int .i64 x.s, sv x.d]).cell 1
              have a2 : (wr.alloc (.cells #[vu x.n, .int .i64 x.s, sv x.d] 45)).cell? ⟨wr.heap.size, 2, none⟩ = some (sv x.d) := (Blk.new wr 45 #[vu x.n, .int .i64 x.s, sv x.d]).cell 2
              have b0 : (wr.alloc (.cells #[vu x.n, .int .i64 x.s, sv x.d] 45)).cell? ⟨g, off + m * 3, none⟩ = some (vu y.n) := cell_later (ba (Below.refl _ _) _) d0
              generalize wr.alloc (.cells #[vu x.n, .int .i64 x.s, sv x.d] 45) = W0 at HB0 a0 a1 a2 b0 ⊢
              go_region_held3 (fun W => W.cell? ⟨wr.heap.size, 0, none⟩ = some (vu x.n) ∧ W.cell? ⟨wr.heap.size, 1, none⟩ = some (.int .i64 x.s) ∧ W.cell? ⟨wr.heap.size, 2, none⟩ = some (sv x.d) ∧ W.cell? ⟨g, off + m * 3, none⟩ = some (vu y.n) ∧ Below W0.heap.size W0 W) (first | assumption | exact ⟨a0, a1, a2, b0, (Below.refl _ _).drew⟩) (first | (go_at_call 37; refine (HF.out _).mono ?_; rintro e w1 ⟨rfl, hb1⟩; have hb1S : w1.cell? ⟨wr.heap.size, 0, none⟩ = some (vu x.n) ∧ w1.cell? ⟨wr.heap.size, 1, none⟩ = some (.int .i64 x.s) ∧ w1.cell? ⟨wr.heap.size, 2, none⟩ = some (sv x.d) ∧ w1.cell? ⟨g, off + m * 3, none⟩ = some (vu y.n) ∧ Below W0.heap.size W0 w1 := ⟨cell_later hb1 a0, cell_later hb1 a1, cell_later hb1 a2, cell_later hb1 b0, bt ((Below.refl _ _).drew) hb1⟩))
              obtain ⟨_, _, _, _, hbz⟩ := hb1S
              go_wp2
              go_ret
              rw [HR.out]
              exact ⟨rfl, bt HB0.out hbz⟩
          · rw [decide_eq_false hx] at HF
            have HR := Lib.hid (HV1.out hx)
            go_wp2_with fail
            have HB0 : Hid (Below w.heap.size w (wr.alloc (.cells #[vu x.n, .int .i64 x.s, sv x.d] 45))) := Lib.hid (ba hb _)
            have a0 : (wr.alloc (.cells #[vu x.n, .int .i64 x.s, sv x.d] 45)).cell? ⟨wr.heap.size, 0, none⟩ = some (vu x.n) := (Blk.new wr 45 #[vu x.n, .int .i64 x.s, sv x.d]).cell 0
            have a1 : (wr.alloc (.cells #[vu x.n, .int .i64 x.s, sv x.d] 45)).cell? ⟨wr.heap.size, 1, none⟩ = some (.int .i64 x.s) := (Blk.new wr 45 #[vu x.n, .int .i64 x.s, sv x.d]).cell 1
            have a2 : (wr.alloc (.cells #[vu x.n, .int .i64 x.s, sv x.d] 45)).cell? ⟨wr.heap.size, 2, none⟩ = some (sv x.d) := (Blk.new wr 45 #[vu x.n, .int .i64 x.s, sv x.d]).cell 2
            generalize wr.alloc (.cells #[vu x.n, .int .i64 x.s, sv x.d] 45) = W0 at HB0 a0 a1 a2 ⊢
            refine wp_region_held_drew (S := fun W => W.cell? ⟨wr.heap.size, 0, none⟩ = some (vu x.n) ∧ W.cell? ⟨wr.heap.size, 1, none⟩ = some (.int .i64 x.s) ∧ W.cell? ⟨wr.heap.size, 2, none⟩ = some (sv x.d) ∧ Below W0.heap.size W0 W) (by kernel_rfl) ⟨a0, a1, a2, (Below.refl _ _).drew⟩ (fun hHeld => ?_)
            refine wpAnyH_take (i := 0) (oi := ⟨some 15, _, _, _, _, _⟩) (v := cv x) rfl (by kernel_rfl) (by kernel_rfl) (by kernel_rfl) (fun _ _ _ h => h) (Or.inl ⟨by rfl, ?_⟩) (by assumption) ?_
            · (intro w9 hSw; obtain ⟨q0, q1, q2, _⟩ := hSw; (try dsimp only at hSw); go_simp; try with_reducible rfl)
            try simp only [Act.put, List.setIfInBounds_toArray, List.set_cons_zero, List.set_cons_succ]
            refine wpAnyH_ready (rs := [1]) (by kernel_rfl) (by simp) ?_
            refine AllReadyH.cons (o := ⟨some 16, _, _, _, _, _⟩) rfl (fun K9 hK9 => ?_) AllReadyH.nil
            go_simp; go_at_call 37
            refine (HF.out _).mono ?_
            rintro e w1 ⟨rfl, hb1⟩
            have hb1S : w1.cell? ⟨wr.heap.size, 0, none⟩ = some (vu x.n) ∧ w1.cell? ⟨wr.heap.size, 1, none⟩ = some (.int .i64 x.s) ∧ w1.cell? ⟨wr.heap.size, 2, none⟩ = some (sv x.d) ∧ Below W0.heap.size W0 w1 := ⟨cell_later hb1 a0, cell_later hb1 a1, cell_later hb1 a2, bt ((Below.refl _ _).drew) hb1⟩
            refine hK9.out _ _ ?_ (fun hHeld => ?_)
            · exact hb1S
            clear hK9 K9
            try simp only [Act.put, List.setIfInBounds_toArray, List.set_cons_zero, List.set_cons_succ]
            refine wpAnyH_take (i := 2) (oi := ⟨some 17, _, _, _, _, _⟩) (v := ?_) rfl (by kernel_rfl) (by kernel_rfl) (by kernel_rfl) (fun _ _ _ h => h) (Or.inl ⟨by rfl, ?_⟩) (by assumption) ?_
            rotate_left
            · (intro w9 hSw; (try dsimp only at hSw); go_simp; try with_reducible rfl)
            try simp only [Act.put, List.setIfInBounds_toArray, List.set_cons_zero, List.set_cons_succ]
            refine wpAnyH_take (i := 3) (oi := ⟨some 18, _, _, _, _, _⟩) (v := ?_) rfl (by kernel_rfl) (by kernel_rfl) (by kernel_rfl) (fun _ _ _ h => h) (Or.inl ⟨by rfl, ?_⟩) (by assumption) ?_
            rotate_left
            · (intro w9 hSw; (try dsimp only at hSw); go_simp; try with_reducible rfl)
            try simp only [Act.put, List.setIfInBounds_toArray, List.set_cons_zero, List.set_cons_succ]
            refine wpAnyH_take (i := 4) (oi := ⟨some 19, _, _, _, _, _⟩) (v := undef) rfl (by kernel_rfl) (by kernel_rfl) (by kernel_rfl) (fun _ _ _ h => h) (Or.inr ⟨by rfl, rfl⟩) (by assumption) ?_
            try simp only [Act.put, List.setIfInBounds_toArray, List.set_cons_zero, List.set_cons_succ]
            refine wpAnyH_take (i := 5) (oi := ⟨some 20, _, _, _, _, _⟩) (v := undef) rfl (by kernel_rfl) (by kernel_rfl) (by kernel_rfl) (fun _ _ _ h => h) (Or.inr ⟨by rfl, rfl⟩) (by assumption) ?_
            try simp only [Act.put, List.setIfInBounds_toArray, List.set_cons_zero, List.set_cons_succ]
            refine wpAnyH_take (i := 6) (oi := ⟨some 21, _, _, _, _, _⟩) (v := undef) rfl (by kernel_rfl) (by kernel_rfl) (by kernel_rfl) (fun _ _ _ h => h) (Or.inr ⟨by rfl, rfl⟩) (by assumption) ?_
            try simp only [Act.put, List.setIfInBounds_toArray, List.set_cons_zero, List.set_cons_succ]
            refine wpAnyH_take (i := 7) (oi := ⟨some 22, _, _, _, _, _⟩) (v := undef) rfl (by kernel_rfl) (by kernel_rfl) (by kernel_rfl) (fun _ _ _ h => h) (Or.inr ⟨by rfl, rfl⟩) (by assumption) ?_
            try simp only [Act.put, List.setIfInBounds_toArray, List.set_cons_zero, List.set_cons_succ]
            refine wpAnyH_take (i := 8) (oi := ⟨some 23, _, _, _, _, _⟩) (v := undef) rfl (by kernel_rfl) (by kernel_rfl) (by kernel_rfl) (fun _ _ _ h => h) (Or.inr ⟨by rfl, rfl⟩) (by assumption) ?_
            try simp only [Act.put, List.setIfInBounds_toArray, List.set_cons_zero, List.set_cons_succ]
            refine wpAnyH_take (i := 9) (oi := ⟨some 24, _, _, _, _, _⟩) (v := undef) rfl (by kernel_rfl) (by kernel_rfl) (by kernel_rfl) (fun _ _ _ h => h) (Or.inr ⟨by rfl, rfl⟩) (by assumption) ?_
            try simp only [Act.put, List.setIfInBounds_toArray, List.set_cons_zero, List.set_cons_succ]
            refine wpAnyH_take (i := 10) (oi := ⟨some 25, _, _, _, _, _⟩) (v := undef) rfl (by kernel_rfl) (by kernel_rfl) (by kernel_rfl) (fun _ _ _ h => h) (Or.inr ⟨by rfl, rfl⟩) (by assumption) ?_
            try simp only [Act.put, List.setIfInBounds_toArray, List.set_cons_zero, List.set_cons_succ]
            refine wpAnyH_take (i := 11) (oi := ⟨some 26, _, _, _, _, _⟩) (v := undef) rfl (by kernel_rfl) (by kernel_rfl) (by kernel_rfl) (fun _ _ _ h => h) (Or.inr ⟨by rfl, rfl⟩) (by assumption) ?_
            try simp only [Act.put, List.setIfInBounds_toArray, List.set_cons_zero, List.set_cons_succ]
            refine wpAnyH_take (i := 12) (oi := ⟨some 27, _, _, _, _, _⟩) (v := undef) rfl (by kernel_rfl) (by kernel_rfl) (by kernel_rfl) (fun _ _ _ h => h) (Or.inr ⟨by rfl, rfl⟩) (by assumption) ?_
            try simp only [Act.put, List.setIfInBounds_toArray, List.set_cons_zero, List.set_cons_succ]
            refine wpAnyH_take (i := 13) (oi := ⟨some 28, _, _, _, _, _⟩) (v := undef) rfl (by kernel_rfl) (by kernel_rfl) (by kernel_rfl) (fun _ _ _ h => h) (Or.inr ⟨by rfl, rfl⟩) (by assumption) ?_
            try simp only [Act.put, List.setIfInBounds_toArray, List.set_cons_zero, List.set_cons_succ]
            refine wpAnyH_take (i := 14) (oi := ⟨some 29, _, _, _, _, _⟩) (v := undef) rfl (by kernel_rfl) (by kernel_rfl) (by kernel_rfl) (fun _ _ _ h => h) (Or.inr ⟨by rfl, rfl⟩) (by assumption) ?_
            try simp only [Act.put, List.setIfInBounds_toArray, List.set_cons_zero, List.set_cons_succ]
            refine wpAnyH_take (i := 15) (oi := ⟨some 30, _, _, _, _, _⟩) (v := undef) rfl (by kernel_rfl) (by kernel_rfl) (by kernel_rfl) (fun _ _ _ h => h) (Or.inr ⟨by rfl, rfl⟩) (by assumption) ?_
            try simp only [Act.put, List.setIfInBounds_toArray, List.set_cons_zero, List.set_cons_succ]
            refine wpAnyH_take (i := 16) (oi := ⟨some 31, _, _, _, _, _⟩) (v := undef) rfl (by kernel_rfl) (by kernel_rfl) (by kernel_rfl) (fun _ _ _ h => h) (Or.inr ⟨by rfl, rfl⟩) (by assumption) ?_
            try simp only [Act.put, List.setIfInBounds_toArray, List.set_cons_zero, List.set_cons_succ]
            refine wpAnyH_take (i := 17) (oi := ⟨some 32, _, _, _, _, _⟩) (v := ?_) rfl (by kernel_rfl) (by kernel_rfl) (by kernel_rfl) (fun _ _ _ h => h) (Or.inl ⟨by rfl, ?_⟩) (by assumption) ?_
            rotate_left
            · (intro w9 hSw; (try dsimp only at hSw); go_simp; try with_reducible rfl)
            try simp only [Act.put, List.setIfInBounds_toArray, List.set_cons_zero, List.set_cons_succ]
            refine wpAnyH_done (by kernel_rfl) ?_ _
            obtain ⟨_, _, _, hbz⟩ := hb1S
            go_wp2
            go_ret
            rw [HR.out]
            exact ⟨rfl, bt HB0.out hbz⟩
      · obtain rfl : k = n := by omega
        have HR := Lib.hid (HY.out HJ.out HJ2.out)
        go_wp2
        go_ret
        rw [HR.out]
        exact ⟨rfl, hb⟩
  · have h1 : ¬ CRt L := fun h => by have := h.1; omega
    rw [decide_eq_false h1]
    clear h1 hA hl
    go_enter Try.func14, Try.ntmps14
    go_wp2
    go_ret
    exact ⟨rfl, Below.refl _ _⟩
end Go.Proofs.Ytbecambkjmheiaa
