/- The contract of Right. -/
import Derived.Test.YthknelpcdoebiaaZGet
namespace Go.Proofs.Ythknelpcdoebiaa
open Go.RowKit

set_option maxRecDepth 100000 in
set_option maxHeartbeats 2000000 in
theorem right_walk0 (N : Int) (A : Option Addr) (n c F : Nat) (w : World)
    (HC : Hid (∀ w, Calls Try.prog 23 #[.int .i64 N] w fun e w' => e = .returned (.bool false) ∧ w = w')) :
    Calls Try.prog 9 #[zbv N A n c F] w fun e w' => e = .returned (.bool false) ∧ Below w.heap.size w w' := by
  have hB : Below w.heap.size w (w.alloc (.cells (zcs N A n c F) 25)) := ba (Below.refl _ _) _
  go_enter Try.func9, Try.ntmps9
  go_wp2_with fail
  go_quiet ((go_at_call 23; exact Calls.quiet_of_same ((HC.out _).mono fun _ _ ⟨h, k⟩ => ⟨h, k.symm⟩)))
  go_wp2
  go_ret
  exact ⟨rfl, zdrew hB _⟩

set_option maxRecDepth 100000 in
set_option maxHeartbeats 2000000 in
theorem right_walk1 (N : Int) (A : Option Addr) (n c F m : Nat) (w : World)
    (HC : Hid (∀ w, Calls Try.prog 23 #[.int .i64 N] w fun e w' => e = .returned (.bool true) ∧ w = w'))
    (HW : Hid (∀ w, Calls Try.prog 24 #[.int .i64 N] w fun e w' => e = .returned (.int .i64 (m : Int)) ∧ w = w'))
    (hnm : ((n : Int) != (m : Int)) = true) :
    Calls Try.prog 9 #[zbv N A n c F] w fun e w' => e = .returned (.bool false) ∧ Below w.heap.size w w' := by
  have hB : Below w.heap.size w (w.alloc (.cells (zcs N A n c F) 25)) := ba (Below.refl _ _) _
  go_enter Try.func9, Try.ntmps9
  go_wp2_with fail
  go_quiet (first | (go_at_call 23; exact Calls.quiet_of_same ((HC.out _).mono fun _ _ ⟨h, k⟩ => ⟨h, k.symm⟩)) | (go_at_call 24; exact Calls.quiet_of_same ((HW.out _).mono fun _ _ ⟨h, k⟩ => ⟨h, k.symm⟩)))
  go_wp2
  go_ret
  exact ⟨rfl, zdrew hB _⟩

set_option maxRecDepth 100000 in
set_option maxHeartbeats 4000000 in
theorem right_walk2 (N : Int) (g off n c F p x y z f : Nat) (w : World)
    (HC : Hid (∀ w, Calls Try.prog 23 #[.int .i64 N] w fun e w' => e = .returned (.bool true) ∧ w = w'))
    (HW : Hid (∀ w, Calls Try.prog 24 #[.int .i64 N] w fun e w' => e = .returned (.int .i64 (n : Int)) ∧ w = w'))
    (HN : Hid (∀ w, Calls Try.prog 25 #[.int .i64 N] w fun e w' => e = .returned (zq z) ∧ w = w'))
    (HF : Hid (∀ W, Below w.heap.size w W → Calls Try.prog 26 #[.slice (some ⟨g, off, none⟩) n c] W fun e w' => e = .returned (zq f) ∧ W = w'))
    (hp : (n : Int) - 1 = (p : Int)) (hpn : (p : Int) < (n : Int)) (h70 : n ≤ 70)
    (c0 : w.cell? ⟨g, off + p, none⟩ = some (zq x)) (hand : bits .and .u64 (x : Int) (z : Int) = (y : Int)) (b1 b2 : Bool)
    (hb1 : ((y : Int) == (z : Int)) = b1) (hb2 : ((F : Int) == (f : Int)) = b2) :
    Calls Try.prog 9 #[zbv N (some ⟨g, off, none⟩) n c F] w fun e w' => e = .returned (.bool (b1 && b2)) ∧ Below w.heap.size w w' := by
  have hB : Below w.heap.size w (w.alloc (.cells (zcs N (some ⟨g, off, none⟩) n c F) 25)) := ba (Below.refl _ _) _
  have HB := Lib.hid hB
  have c1 := cell_later hB c0
  have hnn : ((n : Int) != (n : Int)) = false := by simp
  have p0 : (0 : Int) ≤ (p : Int) := by omega
  have hw : IntKind.i64.wrap (p : Int) = (p : Int) := by rw [IntKind.wrap_i64]; omega
  cases b1 with
  | true =>
    go_enter Try.func9, Try.ntmps9
    go_wp2_with fail
    go_quiet (first | (go_at_call 23; exact Calls.quiet_of_same ((HC.out _).mono fun _ _ ⟨h, k⟩ => ⟨h, k.symm⟩)) | (go_at_call 24; exact Calls.quiet_of_same ((HW.out _).mono fun _ _ ⟨h, k⟩ => ⟨h, k.symm⟩)))
    go_wp2_with fail
    refine (HN.out _).mono ?_
    rintro e w1 ⟨rfl, rfl⟩
    go_wp2_with fail
    go_quiet ((go_at_call 26; exact (HF.out _ (zdrew HB.out _)).mono fun _ _ ⟨h, k⟩ => ⟨h, _, k.symm⟩))
    go_wp2
    go_ret
    refine ⟨?_, by first | exact zdrew (zdrew HB.out _) _ | exact zdrew HB.out _⟩
    rfl
  | false =>
    go_enter Try.func9, Try.ntmps9
    go_wp2_with fail
    go_quiet (first | (go_at_call 23; exact Calls.quiet_of_same ((HC.out _).mono fun _ _ ⟨h, k⟩ => ⟨h, k.symm⟩)) | (go_at_call 24; exact Calls.quiet_of_same ((HW.out _).mono fun _ _ ⟨h, k⟩ => ⟨h, k.symm⟩)))
    go_wp2_with fail
    refine (HN.out _).mono ?_
    rintro e w1 ⟨rfl, rfl⟩
    go_wp2_with fail
    go_quiet (fail)
    go_wp2
    go_ret
    refine ⟨?_, by first | exact zdrew (zdrew HB.out _) _ | exact zdrew HB.out _⟩
    rfl

theorem zbeq (y z : Nat) : ((y : Int) == (z : Int)) = (y == z) := by
  rw [Bool.eq_iff_iff]
  simp only [beq_iff_eq]
  omega

/-- Right, of any map that can be read. -/
theorem zright_any (N : Int) (A : Option Addr) (n c F : Nat) (L : List Nat) (w : World) (hM : ZM w A n c L F) :
    Calls Try.prog 9 #[zbv N A n c F] w fun e w' => e = .returned (.bool (zright N L F)) ∧ Below w.heap.size w w' := by
  by_cases hN : 1 ≤ N ∧ N ≤ 4096
  · obtain ⟨k, rfl⟩ : ∃ k : Nat, N = (k : Int) := ⟨N.toNat, by omega⟩
    have hc0 : (decide (1 ≤ (k : Int)) && decide ((k : Int) ≤ 4096)) = true := by simp; omega
    have HC : Hid (∀ w, Calls Try.prog 23 #[.int .i64 (k : Int)] w fun e w' => e = .returned (.bool true) ∧ w = w') := Lib.hid (fun w => by
      have := isCount_any (k : Int) w
      rw [hc0] at this
      exact this)
    have HW := Lib.hid (fun w => wordsOf_any k (by omega) w)
    by_cases hl : n = zW k
    · have hn1 : 1 ≤ n := by rw [hl]; unfold zW; omega
      have h64 : n ≤ 64 := by rw [hl]; unfold zW; omega
      obtain ⟨g, off, rfl, c0⟩ := hM.row (n - 1) (by rw [hM.len]; omega)
      have hz := zno_lt k
      have HN := Lib.hid (fun w => noPlaces_any k (by omega) (by omega) w)
      have HF : Hid (∀ W, Below w.heap.size w W → Calls Try.prog 26 #[.slice (some ⟨g, off, none⟩) n c] W fun e w' => e = .returned (zq (zfl L)) ∧ W = w') :=
        Lib.hid (fun W hb => fullOf_any _ n c L W (hM.row.later hb) hM.len h64)
      rw [← hl] at HW
      refine (right_walk2 (k : Int) g off n c F (n - 1) _ _ (zno k) (zfl L) w HC HW HN HF (by omega) (by omega) hM.few c0 (zand_nat _ _ (getD_lt hM.lt _) hz) _ _ rfl rfl).mono ?_
      rintro e w' ⟨rfl, hb⟩
      refine ⟨?_, hb⟩
      unfold zright
      rw [hc0, Int.toNat_natCast, hM.len, zbeq, zbeq]
      simp [hl]
    · refine (right_walk1 (k : Int) A n c F (zW k) w HC HW (by simp only [bne_iff_ne, ne_eq]; omega)).mono ?_
      rintro e w' ⟨rfl, hb⟩
      refine ⟨?_, hb⟩
      unfold zright
      rw [hc0, Int.toNat_natCast, hM.len]
      simp [hl]
  · have hc0 : (decide (1 ≤ N) && decide (N ≤ 4096)) = false := by
      rw [Bool.and_eq_false_iff]
      simp only [decide_eq_false_iff_not]
      omega
    have HC : Hid (∀ w, Calls Try.prog 23 #[.int .i64 N] w fun e w' => e = .returned (.bool false) ∧ w = w') := Lib.hid (fun w => by
      have := isCount_any N w
      rw [hc0] at this
      exact this)
    refine (right_walk0 N A n c F w HC).mono ?_
    rintro e w' ⟨rfl, hb⟩
    refine ⟨?_, hb⟩
    unfold zright
    rw [hc0]
    rfl
end Go.Proofs.Ythknelpcdoebiaa
