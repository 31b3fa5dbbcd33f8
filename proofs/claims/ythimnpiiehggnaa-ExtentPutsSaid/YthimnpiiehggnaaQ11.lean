/- Texts of this seat, one behind the other: ERefA, ERefB, ELawT, Base0, U64, ISl. -/
import Derived.Laws.BitsLemmas
import Derived.Lib.Strings
import Derived.Below
import Derived.Sort.Walk0
import Derived.ProofKit
import Derived.Lib.SmallJoins
import Derived.Deep.Slices
import Derived.Deep.Fields
import Derived.ChangeSame
import Derived.ChangeMaps5
import Derived.ChangeArms
import Derived.Deep.Strs
import Derived.ChangeSlices
import Derived.Test.YthimnpiiehggnaaQ01
import Derived.Test.YthimnpiiehggnaaQ10
/- The reference's one, Right, At, Span, Count and New. -/
namespace Go.Proofs.Ythimnpiiehggnaa
open Go.RowKit

set_option maxRecDepth 100000 in
set_option maxHeartbeats 2000000 in
theorem erone_any (r : Rn) (w : World) (hu : EU r) :
    Calls Try.prog 25 #[rv r] w fun e w' => e = .returned (.bool (decide (EOk r))) ∧ Below w.heap.size w w' := by
  obtain ⟨f, n, s⟩ := r
  obtain ⟨f0, f1, n0, n1⟩ := hu
  simp only at f0 f1 n0 n1
  have HD : Hid (decide (EOk ⟨f, n, s⟩) = (decide (0 < n) && decide (n ≤ 576460752303423488) && decide (f < 576460752303423488) && decide (n ≤ 576460752303423488 - f) && (s == 1 || s == 2))) := Lib.hid (by
    by_cases k : EOk ⟨f, n, s⟩
    · rw [decide_eq_true k]
      obtain ⟨k1, k2, k3, k4⟩ := k
      simp only at k1 k2 k3 k4
      rw [decide_eq_true (show 0 < n by omega), decide_eq_true (show n ≤ 576460752303423488 by omega), decide_eq_true (show f < 576460752303423488 by omega), decide_eq_true (show n ≤ 576460752303423488 - f by omega)]
      rcases k4 with rfl | rfl <;> rfl
    · rw [decide_eq_false k]
      symm
      simp only [Bool.and_eq_false_iff, decide_eq_false_iff_not, Bool.or_eq_false_iff, beq_eq_false_iff_ne]
      unfold EOk at k
      simp only at k
      omega)
  rw [HD.out]
  clear HD
  by_cases c1 : 0 < n
  · by_cases c2 : n ≤ 576460752303423488
    · by_cases c3 : f < 576460752303423488
      · by_cases c4 : n ≤ 576460752303423488 - f
        · rw [decide_eq_true c1, decide_eq_true c2, decide_eq_true c3, decide_eq_true c4]
          by_cases c5 : s = 1
          · subst c5
            go_enter Try.func25, Try.ntmps25
            go_wp2
            go_ret
            exact ⟨rfl, ba (Below.refl _ _) _⟩
          · have e5 : (s == 1) = false := by simpa using c5
            rw [e5]
            clear c5
            go_enter Try.func25, Try.ntmps25
            go_wp2
            go_ret
            exact ⟨rfl, ba (Below.refl _ _) _⟩
        · have e4 : decide (n ≤ 576460752303423488 - f) = false := by simpa using c4
          rw [decide_eq_true c1, decide_eq_true c2, decide_eq_true c3, e4]
          clear c4
          go_enter Try.func25, Try.ntmps25
          go_wp2
          go_ret
          exact ⟨rfl, ba (Below.refl _ _) _⟩
      · have e3 : decide (f < 576460752303423488) = false := by simpa using c3
        rw [decide_eq_true c1, decide_eq_true c2, e3]
        clear c3
        go_enter Try.func25, Try.ntmps25
        go_wp2
        go_ret
        exact ⟨rfl, ba (Below.refl _ _) _⟩
    · have e2 : decide (n ≤ 576460752303423488) = false := by simpa using c2
      rw [decide_eq_true c1, e2]
      clear c2
      go_enter Try.func25, Try.ntmps25
      go_wp2
      go_ret
      exact ⟨rfl, ba (Below.refl _ _) _⟩
  · have e1 : decide (0 < n) = false := by simpa using c1
    rw [e1]
    clear c1
    go_enter Try.func25, Try.ntmps25
    go_wp2
    go_ret
    exact ⟨rfl, ba (Below.refl _ _) _⟩

set_option maxRecDepth 100000 in
set_option maxHeartbeats 4000000 in
theorem erright_any (A : Option Addr) (n c : Nat) (L : List Rn) (w : World) (hA : ER w A L) (hl : L.length = n) (hn : n ≤ 65536) (hu : ∀ r ∈ L, EU r) :
    Calls Try.prog 11 #[.slice A n c] w fun e w' => e = .returned (.bool (decide (ERt L))) ∧ Below w.heap.size w w' := by
  have HA := Lib.hid hA
  have HU : Hid (∀ j, j < n → EU (L.getD j default)) := Lib.hid fun j hj => hu _ (egetD_mem (by omega))
  have HV : Hid (∀ j, j < n → ¬ EOk (L.getD j default) → decide (ERt L) = false) := Lib.hid fun j hj h => decide_eq_false fun hr => h (hr.2.1 j (by omega))
  have HK : Hid (∀ j, j + 1 < n → ¬ EFol (L.getD j default) (L.getD (j + 1) default) → decide (ERt L) = false) := Lib.hid fun j hj h => decide_eq_false fun hr => h (by have := hr.2.2 (j + 1) (by omega) (by omega); rwa [Nat.add_sub_cancel] at this)
  have HY : Hid ((∀ j, j < n → EOk (L.getD j default)) → (∀ j, j < n → 0 < j → EFol (L.getD (j - 1) default) (L.getD j default)) → decide (ERt L) = decide ((n : Int) ≤ 64)) := Lib.hid fun a b => by
    by_cases h : n ≤ 64
    · rw [decide_eq_true (show (n : Int) ≤ 64 by omega)]
      exact decide_eq_true ⟨by omega, fun j hj => a j (by omega), fun j hj => b j (by omega)⟩
    · rw [decide_eq_false (show ¬ (n : Int) ≤ 64 by omega)]
      exact decide_eq_false fun k => h (by have := k.1; omega)
  have HL := Lib.hid hl
  generalize decide (ERt L) = R at HV HK HY ⊢
  clear hA hl hu
  go_enter Try.func11, Try.ntmps11
  go_wp2_with fail
  go_loopw [8] (fun iv wr => ∃ k : Nat, k ≤ n ∧ iv = .int .i64 k ∧ Hid (∀ j, j < k → EOk (L.getD j default)) ∧ Hid (∀ j, j < k → 0 < j → EFol (L.getD (j - 1) default) (L.getD j default)) ∧ Below w.heap.size w wr) (fun i _ => n - (intOf i).toNat)
  case atStart => exact ⟨0, Nat.zero_le _, rfl, Lib.hid (fun j hj => by omega), Lib.hid (fun j hj => by omega), Below.refl _ _⟩
  case round =>
    obtain ⟨k, hk, rfl, HJ, HJ2, hb⟩ := hrel
    by_cases hlt : k < n
    · obtain ⟨g, off, rfl, c0, c1, c2⟩ := (HA.out.later hb) k (by rw [HL.out]; exact hlt)
      have HV1 := Lib.hid (HV.out k hlt)
      have HU1 := Lib.hid (HU.out k hlt)
      have i0 : (0 : Int) ≤ (k : Int) := by omega
      have i1 : (k : Int) < (n : Int) := by omega
      have HJ1 : Hid (EOk (L.getD k default) → ∀ j, j < k + 1 → EOk (L.getD j default)) := Lib.hid fun h j hj => by
        by_cases e : j = k
        · rw [e]; exact h
        · exact HJ.out j (by omega)
      rcases Nat.eq_zero_or_pos k with rfl | hk0
      · have HJ3 : Hid (∀ j, j < 0 + 1 → 0 < j → EFol (L.getD (j - 1) default) (L.getD j default)) := Lib.hid fun j hj h0 => by omega
        generalize L.getD 0 default = x at *
        simp only [Nat.zero_mul, Nat.add_zero] at c0 c1 c2
        have HF := Lib.hid (fun W => erone_any x W HU1.out)
        have d0 : decide ((0 : Int) < 0) = false := by simp
        by_cases hx : EOk x
        · rw [decide_eq_true hx] at HF
          go_wp2_with fail
          refine (HF.out _).mono ?_
          rintro e w1 ⟨rfl, hb1⟩
          have HB1 := Lib.hid (bt (ba hb _) hb1)
          go_wp2
          exact ⟨⟨1, by omega, by go_num, Lib.hid (HJ1.out hx), HJ3, HB1.out⟩, by simp [intOf]; omega⟩
        · rw [decide_eq_false hx] at HF
          have HR := Lib.hid (HV1.out hx)
          go_wp2_with fail
          refine (HF.out _).mono ?_
          rintro e w1 ⟨rfl, hb1⟩
          have HB1 := Lib.hid (bt (ba hb _) hb1)
          go_wp2
          go_ret
          rw [HR.out]
          exact ⟨rfl, HB1.out⟩
      · obtain ⟨m, rfl⟩ : ∃ m, k = m + 1 := ⟨k - 1, by omega⟩
        obtain ⟨g', off', e, d0, d1, d2⟩ := (HA.out.later hb) m (by rw [HL.out]; omega)
        obtain ⟨rfl, rfl⟩ : g = g' ∧ off = off' := by injection e with e; injection e with e1 e2; exact ⟨e1, e2⟩
        have HK1 := Lib.hid (HK.out m (by omega))
        have HM := Lib.hid (HJ.out m (by omega))
        have HJ3 : Hid (EFol (L.getD m default) (L.getD (m + 1) default) → ∀ j, j < m + 1 + 1 → 0 < j → EFol (L.getD (j - 1) default) (L.getD j default)) := Lib.hid fun h j hj h0 => by
          by_cases e : j = m + 1
          · rw [e]; exact h
          · exact HJ2.out j (by omega) h0
        generalize L.getD (m + 1) default = x at *
        generalize L.getD m default = y at *
        have HF := Lib.hid (fun W => erone_any x W HU1.out)
        have e0 : IntKind.i64.wrap (((m + 1 : Nat) : Int) - 1) = (m : Int) := by rw [IntKind.wrap_i64]; omega
        have e1 : (0 : Int) < ((m + 1 : Nat) : Int) := by omega
        have e5 : IntKind.i64.wrap ((m : Int) + 1 - 1) = (m : Int) := by rw [IntKind.wrap_i64]; omega
        have e6 : (0 : Int) < (m : Int) + 1 := by omega
        have e7 : IntKind.i64.wrap (m : Int) = (m : Int) := by rw [IntKind.wrap_i64]; omega
        have e2 : (0 : Int) ≤ (m : Int) := by omega
        have e3 : (m : Int) < (n : Int) := by omega
        obtain ⟨yf, yn, ys⟩ := y
        have y0 := HM.out.1
        have y1 := HM.out.2.1
        have y2 := HM.out.2.2.1
        simp only at d0 d1 d2 y0 y1 y2
        have e8 : IntKind.u64.wrap (yf + yn) = yf + yn := by rw [IntKind.wrap_u64]; omega
        by_cases hx : EOk x
        · rw [decide_eq_true hx] at HF
          go_wp2_with fail
          refine (HF.out _).mono ?_
          rintro e w1 ⟨rfl, hb1⟩
          have HB1 := Lib.hid (bt (ba hb _) hb1)
          have HX1 := Lib.hid ((Blk.new wr 47 #[.int .u64 x.f, .int .u64 x.n, .int .i64 x.s]).below hb1)
          have b0 : w1.cell? ⟨g, off + m * 3, none⟩ = some (.int .u64 yf) := ecell (bt (ba (Below.refl _ _) _) hb1) d0
          have b1 : w1.cell? ⟨g, off + m * 3 + 1, none⟩ = some (.int .u64 yn) := ecell (bt (ba (Below.refl _ _) _) hb1) d1
          have b2 : w1.cell? ⟨g, off + m * 3 + 2, none⟩ = some (.int .i64 ys) := ecell (bt (ba (Below.refl _ _) _) hb1) d2
          have a0 : w1.cell? ⟨wr.heap.size, 0, none⟩ = some (.int .u64 x.f) := HX1.out.cell 0
          have a2 : w1.cell? ⟨wr.heap.size, 2, none⟩ = some (.int .i64 x.s) := HX1.out.cell 2
          clear hb1 d0 d1 d2 c0 c1 c2
          go_wp2_with fail
          go_quiet (fail)
          by_cases q1 : x.f < yf + yn
          · have HR := Lib.hid (HK1.out (fun h => by rcases h with h | h <;> simp only at h <;> omega))
            go_wp2_with fail
            go_quiet (fail)
            go_wp2
            go_ret
            rw [HR.out]
            exact ⟨rfl, bdn' (bdn' HB1.out _) _⟩
          · have f1 : decide (x.f < yf + yn) = false := by simpa using q1
            by_cases q2 : yf + yn = x.f
            · by_cases q3 : ys = x.s
              · have HR := Lib.hid (HK1.out (fun h => by rcases h with h | h <;> simp only at h <;> omega))
                have f2 : (yf + yn == x.f) = true := by simpa using q2
                have f3 : (ys == x.s) = true := by simpa using q3
                clear q1 q2 q3
                go_wp2_with fail
                go_quiet (fail)
                go_wp2
                go_ret
                rw [HR.out]
                exact ⟨rfl, bdn' (bdn' HB1.out _) _⟩
              · have HFO : Hid (EFol ⟨yf, yn, ys⟩ x) := Lib.hid (.inr ⟨q2, q3⟩)
                have f2 : (yf + yn == x.f) = true := by simpa using q2
                have f3 : (ys == x.s) = false := by simpa using q3
                clear q1 q2 q3
                go_wp2_with fail
                go_quiet (fail)
                go_wp2
                exact ⟨⟨m + 1 + 1, by omega, by go_num, Lib.hid (HJ1.out hx), Lib.hid (HJ3.out HFO.out), bdn' HB1.out _⟩, by simp [intOf]; omega⟩
            · have HFO : Hid (EFol ⟨yf, yn, ys⟩ x) := Lib.hid (.inl (by show yf + yn < x.f; omega))
              have f2 : (yf + yn == x.f) = false := by simpa using q2
              clear q1 q2
              go_wp2_with fail
              go_quiet (fail)
              go_wp2
              exact ⟨⟨m + 1 + 1, by omega, by go_num, Lib.hid (HJ1.out hx), Lib.hid (HJ3.out HFO.out), bdn' HB1.out _⟩, by simp [intOf]; omega⟩
        · rw [decide_eq_false hx] at HF
          have HR := Lib.hid (HV1.out hx)
          go_wp2_with fail
          refine (HF.out _).mono ?_
          rintro e w1 ⟨rfl, hb1⟩
          have HB1 := Lib.hid (bt (ba hb _) hb1)
          go_wp2
          go_ret
          rw [HR.out]
          exact ⟨rfl, HB1.out⟩
    · obtain rfl : k = n := by omega
      have HR := Lib.hid (HY.out HJ.out HJ2.out)
      go_wp2
      go_ret
      rw [HR.out]
      exact ⟨rfl, hb⟩
end Go.Proofs.Ythimnpiiehggnaa
/- The reference's At, New, Span and Count. -/
namespace Go.Proofs.Ythimnpiiehggnaa
open Go.RowKit

set_option maxRecDepth 100000 in
set_option maxHeartbeats 2000000 in
theorem erat_any (A : Option Addr) (N c : Nat) (L : List Rn) (x : Int) (w : World) (hA : ER w A L) (hl : L.length = N) (hN : N ≤ 65536) (hu : ∀ r ∈ L, EU r) (x0 : 0 ≤ x) (x1 : x ≤ 18446744073709551615) :
    Calls Try.prog 16 #[.slice A N c, .int .u64 x] w fun e w' => e = .returned (.int .i64 (eAt L x)) ∧ Below w.heap.size w w' := by
  have HA := Lib.hid hA
  have HL := Lib.hid hl
  have HU : Hid (∀ k, k < N → EU (L.getD k default)) := Lib.hid fun k hk => hu _ (egetD_mem (by omega))
  have HD : Hid (∀ k, k < N → L.drop k = L.getD k default :: L.drop (k + 1)) := Lib.hid fun k hk => by
    have hlt : k < L.length := by omega
    rw [List.drop_eq_getElem_cons hlt]
    simp [List.getD, hlt]
  have H0 : Hid (eAt (L.drop 0) x = eAt L x) := Lib.hid rfl
  have HE : Hid (eAt (L.drop N) x = 0) := Lib.hid (by rw [← hl, List.drop_length]; rfl)
  generalize eAt L x = V at H0 ⊢
  clear hA hl hu
  go_enter Try.func16, Try.ntmps16
  go_wp2_with fail
  go_loopw [9] (fun iv wr => ∃ (k : Nat), k ≤ N ∧ iv = .int .i64 k ∧ Hid (eAt (L.drop k) x = V) ∧ Below w.heap.size w wr) (fun i _ => N - (intOf i).toNat)
  case atStart => exact ⟨0, Nat.zero_le _, rfl, H0, Below.refl _ _⟩
  case round =>
    obtain ⟨k, hk, rfl, HS, hb⟩ := hrel
    by_cases hlt : k < N
    · obtain ⟨g, off, rfl, d0, d1, d2⟩ := (HA.out.later hb) k (by rw [HL.out]; exact hlt)
      have HX := Lib.hid (HU.out k hlt)
      rw [HD.out k hlt, eat_cons] at HS
      have i0 : (0 : Int) ≤ (k : Int) := by omega
      have i1 : (k : Int) < (N : Int) := by omega
      generalize L.getD k default = y at d0 d1 d2 HX HS
      have HB := Lib.hid (ba hb (.cells #[.int .u64 y.f, .int .u64 y.n, .int .i64 y.s] 47))
      obtain ⟨yf, yn, ys⟩ := y
      obtain ⟨u0, u1, u2, u3⟩ := HX.out
      simp only at d0 d1 d2 HS HB u0 u1 u2 u3
      by_cases h1 : yf ≤ x
      · have e8 : IntKind.u64.wrap (x - yf) = x - yf := by rw [IntKind.wrap_u64]; omega
        by_cases h2 : x - yf < yn
        · have HV : Hid (V = ys) := Lib.hid (by rw [← HS.out, if_pos ⟨h1, by omega⟩])
          go_wp2
          go_ret
          rw [HV.out]
          exact ⟨rfl, HB.out⟩
        · have HV : Hid (eAt (L.drop (k + 1)) x = V) := Lib.hid (by rw [← HS.out, if_neg (fun h => h2 (by omega))])
          have e2 : decide (x - yf < yn) = false := by simpa using h2
          clear h2
          go_wp2
          exact ⟨⟨k + 1, by omega, by go_num, HV, HB.out⟩, by simp [intOf]; omega⟩
      · have HV : Hid (eAt (L.drop (k + 1)) x = V) := Lib.hid (by rw [← HS.out, if_neg (fun h => h1 h.1)])
        have e2 : decide (yf ≤ x) = false := by simpa using h1
        clear h1
        go_wp2
        exact ⟨⟨k + 1, by omega, by go_num, HV, HB.out⟩, by simp [intOf]; omega⟩
    · obtain rfl : k = N := by omega
      have HF : Hid (V = 0) := Lib.hid (by rw [← HS.out, HE.out])
      go_wp2
      go_ret
      rw [HF.out]
      exact ⟨rfl, hb⟩

set_option maxRecDepth 100000 in
set_option maxHeartbeats 2000000 in
theorem ernew_any (A : Option Addr) (N c : Nat) (L : List Rn) (f n s x : Int) (w : World) (hA : ER w A L) (hl : L.length = N) (hN : N ≤ 65536) (hu : ∀ r ∈ L, EU r) (f0 : 0 ≤ f) (f1 : f ≤ 18446744073709551615) (x0 : 0 ≤ x) (x1 : x ≤ 18446744073709551615) :
    Calls Try.prog 48 #[.slice A N c, .agg #[.int .u64 f, .int .u64 n], .int .i64 s, .int .u64 x] w fun e w' => e = .returned (.int .i64 (enew L f n s x)) ∧ Below w.heap.size w w' := by
  have HA : Hid (∀ W, Below w.heap.size w W → Calls Try.prog 16 #[.slice A N c, .int .u64 x] W fun e w' => e = .returned (.int .i64 (eAt L x)) ∧ Below W.heap.size W w') := Lib.hid fun W hb => erat_any A N c L x W (hA.later hb) hl hN hu x0 x1
  have HB := Lib.hid (ba (Below.refl w.heap.size w) (.cells #[.int .u64 f, .int .u64 n] 37))
  clear hA hl hN hu
  by_cases h1 : f ≤ x
  · have e8 : IntKind.u64.wrap (x - f) = x - f := by rw [IntKind.wrap_u64]; omega
    by_cases h2 : x - f < n
    · have HV : Hid (enew L f n s x = s) := Lib.hid (by unfold enew; rw [if_pos ⟨h1, by omega⟩])
      rw [HV.out]
      clear HA
      go_enter Try.func48, Try.ntmps48
      go_wp2
      go_ret
      exact ⟨rfl, HB.out⟩
    · have HV : Hid (enew L f n s x = eAt L x) := Lib.hid (by unfold enew; rw [if_neg (fun h => h2 (by omega))])
      rw [HV.out]
      generalize eAt L x = V at HA ⊢
      have e2 : decide (x - f < n) = false := by simpa using h2
      clear h2 HV
      go_enter Try.func48, Try.ntmps48
      go_wp2_with fail
      refine (HA.out _ HB.out).mono ?_
      rintro e w1 ⟨rfl, hb1⟩
      go_wp2
      go_ret
      exact ⟨rfl, bt HB.out hb1⟩
  · have HV : Hid (enew L f n s x = eAt L x) := Lib.hid (by unfold enew; rw [if_neg (fun h => h1 h.1)])
    rw [HV.out]
    generalize eAt L x = V at HA ⊢
    have e2 : decide (f ≤ x) = false := by simpa using h1
    clear h1 HV
    go_enter Try.func48, Try.ntmps48
    go_wp2_with fail
    refine (HA.out _ HB.out).mono ?_
    rintro e w1 ⟨rfl, hb1⟩
    go_wp2
    go_ret
    exact ⟨rfl, bt HB.out hb1⟩

theorem erspan_any (f n : Int) (w : World) (f0 : 0 ≤ f) (f1 : f ≤ 18446744073709551615) (n0 : 0 ≤ n) (n1 : n ≤ 18446744073709551615) :
    Calls Try.prog 18 #[.agg #[.int .u64 f, .int .u64 n]] w fun e w' => e = .returned (.int .i64 (ewhy f n)) ∧ Below w.heap.size w w' := by
  by_cases hn : n = 0
  · have e : ewhy f n = 1 := by unfold ewhy; rw [if_pos hn]
    rw [e]
    have HF := Lib.hid (fun W => rcheck_bad f n 1 W f0 f1 n1 (.inl ⟨hn, rfl⟩))
    clear hn e
    go_enter Try.func18, Try.ntmps18
    go_wp2_with fail
    refine (HF.out _).mono ?_
    rintro e w1 ⟨rfl, hb⟩
    go_wp2
    go_ret
    exact ⟨rfl, bt (ba (Below.refl _ _) _) hb⟩
  · by_cases hx : 18446744073709551616 < f + n
    · have e : ewhy f n = 2 := by unfold ewhy; rw [if_neg hn, if_neg (by omega)]
      rw [e]
      have HF := Lib.hid (fun W => rcheck_bad f n 2 W f0 f1 n1 (.inr ⟨by omega, hx, rfl⟩))
      clear hn hx e
      go_enter Try.func18, Try.ntmps18
      go_wp2_with fail
      refine (HF.out _).mono ?_
      rintro e w1 ⟨rfl, hb⟩
      go_wp2
      go_ret
      exact ⟨rfl, bt (ba (Below.refl _ _) _) hb⟩
    · have HF := Lib.hid (fun W => rcheck_ok f n W f0 (by omega) (by omega))
      have HG := Lib.hid (fun W => rlast_ok f n W f0 (by omega) (by omega))
      by_cases hy : f + n ≤ 576460752303423488
      · have e : ewhy f n = 0 := by unfold ewhy; rw [if_neg hn, if_pos hy]
        rw [e]
        have e1 : decide (576460752303423488 ≤ f + (n - 1)) = false := by simp; omega
        clear e hn hx
        go_enter Try.func18, Try.ntmps18
        go_wp2_with fail
        refine (HF.out _).mono ?_
        rintro e w1 ⟨rfl, hb⟩
        have q0 : w1.cell? ⟨w.heap.size, 0, none⟩ = some (.int .u64 f) := ((Blk.new w 37 #[.int .u64 f, .int .u64 n]).below hb).cell 0
        have q1 : w1.cell? ⟨w.heap.size, 1, none⟩ = some (.int .u64 n) := ((Blk.new w 37 #[.int .u64 f, .int .u64 n]).below hb).cell 1
        have HB1 := Lib.hid (bt (ba (Below.refl w.heap.size w) _) hb)
        clear hb
        go_wp2_with fail
        refine (HG.out _).mono ?_
        rintro e w2 ⟨rfl, hb2⟩
        go_wp2
        go_ret
        exact ⟨rfl, bt HB1.out hb2⟩
      · have e : ewhy f n = 2 := by unfold ewhy; rw [if_neg hn, if_neg hy]
        rw [e]
        have e1 : 576460752303423488 ≤ f + (n - 1) := by omega
        clear e hn hx hy
        go_enter Try.func18, Try.ntmps18
        go_wp2_with fail
        refine (HF.out _).mono ?_
        rintro e w1 ⟨rfl, hb⟩
        have q0 : w1.cell? ⟨w.heap.size, 0, none⟩ = some (.int .u64 f) := ((Blk.new w 37 #[.int .u64 f, .int .u64 n]).below hb).cell 0
        have q1 : w1.cell? ⟨w.heap.size, 1, none⟩ = some (.int .u64 n) := ((Blk.new w 37 #[.int .u64 f, .int .u64 n]).below hb).cell 1
        have HB1 := Lib.hid (bt (ba (Below.refl w.heap.size w) _) hb)
        clear hb
        go_wp2_with fail
        refine (HG.out _).mono ?_
        rintro e w2 ⟨rfl, hb2⟩
        go_wp2
        go_ret
        exact ⟨rfl, bt HB1.out hb2⟩

set_option maxRecDepth 100000 in
set_option maxHeartbeats 2000000 in
theorem ercount_any (A : Option Addr) (N c : Nat) (L : List Rn) (w : World) (hA : ER w A L) (hl : L.length = N) (h : ERt L) :
    Calls Try.prog 15 #[.slice A N c] w fun e w' => e = .returned (.int .u64 (ecount L)) ∧ Below w.heap.size w w' := by
  have hN : N ≤ 64 := by rw [← hl]; exact h.1
  have HA := Lib.hid hA
  have HL := Lib.hid hl
  have HT := Lib.hid (fun k => ecount_take h k)
  have HM : Hid (∀ k, k < N → ecount (L.take (k + 1)) = ecount (L.take k) + (L.getD k default).n) := Lib.hid fun k hk => ecount_more L k (by omega)
  have H0 : Hid (ecount (L.take 0) = 0) := Lib.hid rfl
  have HE : Hid (ecount (L.take N) = ecount L) := Lib.hid (by rw [← hl, List.take_length])
  generalize ecount L = E at HE ⊢
  clear hA hl h
  go_enter Try.func15, Try.ntmps15
  go_wp2_with fail
  go_loopw [3, 8] (fun sv iv wr => ∃ (k : Nat) (s : Int), k ≤ N ∧ iv = .int .i64 k ∧ sv = .int .u64 s ∧ Hid (ecount (L.take k) = s) ∧ Below w.heap.size w wr) (fun _ i _ => N - (intOf i).toNat)
  case atStart => exact ⟨0, 0, Nat.zero_le _, rfl, rfl, H0, Below.refl _ _⟩
  case round =>
    obtain ⟨k, s, hk, rfl, rfl, HS, hb⟩ := hrel
    by_cases hlt : k < N
    · obtain ⟨g, off, rfl, d0, d1, d2⟩ := (HA.out.later hb) k (by rw [HL.out]; exact hlt)
      have HM1 := HM.out k hlt
      have h1 := HT.out k
      have h2 := HT.out (k + 1)
      rw [HM1, HS.out] at h2
      rw [HS.out] at HM1 h1
      have HM1 := Lib.hid HM1
      have i0 : (0 : Int) ≤ (k : Int) := by omega
      have i1 : (k : Int) < (N : Int) := by omega
      generalize L.getD k default = x at d0 d1 d2 HM1 h2
      obtain ⟨xf, xn, xs⟩ := x
      simp only at d0 d1 d2 HM1 h2
      go_wp2
      exact ⟨⟨k + 1, s + xn, by omega, by go_num, rfl, Lib.hid HM1.out, ba hb _⟩, by simp [intOf]; omega⟩
    · obtain rfl : k = N := by omega
      have HF : Hid (s = E) := Lib.hid (by rw [← HS.out, HE.out])
      go_wp2
      go_ret
      rw [HF.out]
      exact ⟨rfl, hb⟩
end Go.Proofs.Ythimnpiiehggnaa
/- ExtentTells: the walk. -/
namespace Go.Proofs.Ythimnpiiehggnaa
open Go.RowKit

set_option maxRecDepth 100000 in
set_option maxHeartbeats 4000000 in
/-- The law behind few. -/
theorem etells_in (A B : Option Addr) (N M n m c d : Nat) (L K : List Rn) (x : Int) (w : World) (hc : N ≤ c) (hd : M ≤ d) (hn : min N 66 = n) (hm : min M 66 = m) (hl : L.length = n) (hk : K.length = m) (hA : ER w A L) (hB : ER w B K) (hu : ∀ r ∈ L, EU r) (x0 : 0 ≤ x) (x1 : x ≤ 18446744073709551615) :
    Calls Try.prog 3 #[.slice A N c, .slice B M d, .int .u64 x] w fun e w' => e = .returned (.bool true) ∧ Below w.heap.size w w' := by
  have hn6 : n ≤ 66 := by omega
  have hm6 : m ≤ 66 := by omega
  have HF1 : Hid (∀ W, Below w.heap.size w W → Calls Try.prog 7 #[.slice A N c] W fun e w' => e = .returned (.slice A n c) ∧ Below W.heap.size W w') := Lib.hid fun W hb => (efew_any A N c W hc).mono fun e w' h => by rw [hn] at h; exact ⟨h.1, by rw [h.2]; exact Below.refl _ _⟩
  have HF2 : Hid (∀ W, Below w.heap.size w W → Calls Try.prog 7 #[.slice B M d] W fun e w' => e = .returned (.slice B m d) ∧ Below W.heap.size W w') := Lib.hid fun W hb => (efew_any B M d W hd).mono fun e w' h => by rw [hm] at h; exact ⟨h.1, by rw [h.2]; exact Below.refl _ _⟩
  have HR : Hid (∀ W, Below w.heap.size w W → Calls Try.prog 10 #[.slice A n c] W fun e w' => e = .returned (.bool (decide (ERt L))) ∧ Below W.heap.size W w') := Lib.hid fun W hb => eright_any A n c L W (hA.later hb) hl (by omega) hu
  have HQ : Hid (∀ W, Below w.heap.size w W → Calls Try.prog 11 #[.slice A n c] W fun e w' => e = .returned (.bool (decide (ERt L))) ∧ Below W.heap.size W w') := Lib.hid fun W hb => erright_any A n c L W (hA.later hb) hl (by omega) hu
  have HL : Hid (∀ W, Below w.heap.size w W → Calls Try.prog 12 #[.slice A n c, .slice B m d] W fun e w' => e = .returned (.bool (decide (L = K))) ∧ Below W.heap.size W w') := Lib.hid fun W hb => elike_any A B c d n m L K W (hA.later hb) (hB.later hb) hl hk (by omega) (by omega)
  have HS : Hid (∀ W, Below w.heap.size w W → Calls Try.prog 13 #[.slice A n c, .slice B m d] W fun e w' => e = .returned (.bool (decide (L = K))) ∧ Below W.heap.size W w') := Lib.hid fun W hb => ersame_any A B c d n m L K W (hA.later hb) (hB.later hb) hl hk (by omega) (by omega)
  have HLL : Hid (∀ W, Below w.heap.size w W → Calls Try.prog 12 #[.slice A n c, .slice A n c] W fun e w' => e = .returned (.bool true) ∧ Below W.heap.size W w') := Lib.hid fun W hb => (elike_any A A c c n n L L W (hA.later hb) (hA.later hb) hl hl (by omega) (by omega)).mono fun e w' h => by simpa using h
  have HV : Hid (∀ W, Below w.heap.size w W → Calls Try.prog 14 #[] W fun e w' => e = .returned (.bool true) ∧ Below W.heap.size W w') := Lib.hid fun W hb => ealive_any W
  generalize decide (L = K) = bb at HL HS
  by_cases hr : ERt L
  · rw [decide_eq_true hr] at HR HQ
    have HC : Hid (∀ W, Below w.heap.size w W → Calls Try.prog 8 #[.slice A n c] W fun e w' => e = .returned (.tuple #[.int .u64 (ecount L), .int .i64 0]) ∧ Below W.heap.size W w') := Lib.hid fun W hb => ecount_yes A n c L W (hA.later hb) hl hu hr
    have HRC : Hid (∀ W, Below w.heap.size w W → Calls Try.prog 15 #[.slice A n c] W fun e w' => e = .returned (.int .u64 (ecount L)) ∧ Below W.heap.size W w') := Lib.hid fun W hb => ercount_any A n c L W (hA.later hb) hl hr
    generalize ecount L = E at HC HRC
    by_cases hx : 576460752303423488 ≤ x
    · have HA : Hid (∀ W, Below w.heap.size w W → Calls Try.prog 9 #[.slice A n c, .int .u64 x] W fun e w' => e = .returned (.tuple #[.int .i64 0, .int .i64 2]) ∧ Below W.heap.size W w') := Lib.hid fun W hb => eat_range A n c L x W (hA.later hb) hl (by omega) hu hr hx
      clear hA hB hl hk hu hr hn hm hc hd
      go_enter Try.func3, Try.ntmps3
      go_wp2_with fail
      refine (HF1.out _ (Below.refl w.heap.size w)).mono ?_
      rintro e w1 ⟨rfl, h1⟩
      have HB1 := Lib.hid (bt (Below.refl w.heap.size w) h1)
      clear h1
      go_wp2_with fail
      refine (HF2.out _ HB1.out).mono ?_
      rintro e w2 ⟨rfl, h2⟩
      have HB2 := Lib.hid (bt HB1.out h2)
      clear h2
      go_wp2_with fail
      refine (HC.out _ HB2.out).mono ?_
      rintro e w3 ⟨rfl, h3⟩
      have HB3 := Lib.hid (bt HB2.out h3)
      clear h3
      go_wp2_with fail
      refine (HA.out _ HB3.out).mono ?_
      rintro e w4 ⟨rfl, h4⟩
      have HB4 := Lib.hid (bt HB3.out h4)
      clear h4
      go_wp2_with fail
      refine (HR.out _ HB4.out).mono ?_
      rintro e w5 ⟨rfl, h5⟩
      have HB5 := Lib.hid (bt HB4.out h5)
      clear h5
      go_wp2_with fail
      refine (HQ.out _ HB5.out).mono ?_
      rintro e w6 ⟨rfl, h6⟩
      have HB6 := Lib.hid (bt HB5.out h6)
      clear h6
      go_wp2_with fail
      refine (HL.out _ HB6.out).mono ?_
      rintro e w7 ⟨rfl, h7⟩
      have HB7 := Lib.hid (bt HB6.out h7)
      clear h7
      go_wp2_with fail
      refine (HS.out _ HB7.out).mono ?_
      rintro e w8 ⟨rfl, h8⟩
      have HB8 := Lib.hid (bt HB7.out h8)
      clear h8
      go_wp2_with fail
      refine (HLL.out _ HB8.out).mono ?_
      rintro e w9 ⟨rfl, h9⟩
      have HB9 := Lib.hid (bt HB8.out h9)
      clear h9
      go_wp2_with fail
      refine (HV.out _ HB9.out).mono ?_
      rintro e w10 ⟨rfl, h10⟩
      have HB10 := Lib.hid (bt HB9.out h10)
      clear h10
      go_wp2_with fail
      refine (HQ.out _ HB10.out).mono ?_
      rintro e w11 ⟨rfl, h11⟩
      have HB11 := Lib.hid (bt HB10.out h11)
      clear h11
      go_wp2_with fail
      refine (HRC.out _ HB11.out).mono ?_
      rintro e w12 ⟨rfl, h12⟩
      have HB12 := Lib.hid (bt HB11.out h12)
      clear h12
      go_wp2
      go_ret
      exact ⟨rfl, HB12.out⟩
    · have hx1 : x < 576460752303423488 := by omega
      have hxd : decide (576460752303423488 ≤ x) = false := by simpa using hx
      have HA : Hid (∀ W, Below w.heap.size w W → Calls Try.prog 9 #[.slice A n c, .int .u64 x] W fun e w' => e = .returned (.tuple #[.int .i64 (eAt L x), .int .i64 0]) ∧ Below W.heap.size W w') := Lib.hid fun W hb => eat_yes A n c L x W (hA.later hb) hl hu hr hx1
      have HRA : Hid (∀ W, Below w.heap.size w W → Calls Try.prog 16 #[.slice A n c, .int .u64 x] W fun e w' => e = .returned (.int .i64 (eAt L x)) ∧ Below W.heap.size W w') := Lib.hid fun W hb => erat_any A n c L x W (hA.later hb) hl (by omega) hu x0 x1
      generalize eAt L x = V at HA HRA
      clear hA hB hl hk hu hr hn hm hc hd hx
      go_enter Try.func3, Try.ntmps3
      go_wp2_with fail
      refine (HF1.out _ (Below.refl w.heap.size w)).mono ?_
      rintro e w1 ⟨rfl, h1⟩
      have HB1 := Lib.hid (bt (Below.refl w.heap.size w) h1)
      clear h1
      go_wp2_with fail
      refine (HF2.out _ HB1.out).mono ?_
      rintro e w2 ⟨rfl, h2⟩
      have HB2 := Lib.hid (bt HB1.out h2)
      clear h2
      go_wp2_with fail
      refine (HC.out _ HB2.out).mono ?_
      rintro e w3 ⟨rfl, h3⟩
      have HB3 := Lib.hid (bt HB2.out h3)
      clear h3
      go_wp2_with fail
      refine (HA.out _ HB3.out).mono ?_
      rintro e w4 ⟨rfl, h4⟩
      have HB4 := Lib.hid (bt HB3.out h4)
      clear h4
      go_wp2_with fail
      refine (HR.out _ HB4.out).mono ?_
      rintro e w5 ⟨rfl, h5⟩
      have HB5 := Lib.hid (bt HB4.out h5)
      clear h5
      go_wp2_with fail
      refine (HQ.out _ HB5.out).mono ?_
      rintro e w6 ⟨rfl, h6⟩
      have HB6 := Lib.hid (bt HB5.out h6)
      clear h6
      go_wp2_with fail
      refine (HL.out _ HB6.out).mono ?_
      rintro e w7 ⟨rfl, h7⟩
      have HB7 := Lib.hid (bt HB6.out h7)
      clear h7
      go_wp2_with fail
      refine (HS.out _ HB7.out).mono ?_
      rintro e w8 ⟨rfl, h8⟩
      have HB8 := Lib.hid (bt HB7.out h8)
      clear h8
      go_wp2_with fail
      refine (HLL.out _ HB8.out).mono ?_
      rintro e w9 ⟨rfl, h9⟩
      have HB9 := Lib.hid (bt HB8.out h9)
      clear h9
      go_wp2_with fail
      refine (HV.out _ HB9.out).mono ?_
      rintro e w10 ⟨rfl, h10⟩
      have HB10 := Lib.hid (bt HB9.out h10)
      clear h10
      go_wp2_with fail
      refine (HQ.out _ HB10.out).mono ?_
      rintro e w11 ⟨rfl, h11⟩
      have HB11 := Lib.hid (bt HB10.out h11)
      clear h11
      go_wp2_with fail
      refine (HRC.out _ HB11.out).mono ?_
      rintro e w12 ⟨rfl, h12⟩
      have HB12 := Lib.hid (bt HB11.out h12)
      clear h12
      go_wp2_with fail
      refine (HRA.out _ HB12.out).mono ?_
      rintro e w13 ⟨rfl, h13⟩
      have HB13 := Lib.hid (bt HB12.out h13)
      clear h13
      go_wp2
      go_ret
      exact ⟨rfl, HB13.out⟩
  · rw [decide_eq_false hr] at HR HQ
    have HC : Hid (∀ W, Below w.heap.size w W → Calls Try.prog 8 #[.slice A n c] W fun e w' => e = .returned (.tuple #[.int .u64 0, .int .i64 1]) ∧ Below W.heap.size W w') := Lib.hid fun W hb => ecount_arg A n c L W (hA.later hb) hl (by omega) hu hr
    have HA : Hid (∀ W, Below w.heap.size w W → Calls Try.prog 9 #[.slice A n c, .int .u64 x] W fun e w' => e = .returned (.tuple #[.int .i64 0, .int .i64 1]) ∧ Below W.heap.size W w') := Lib.hid fun W hb => eat_arg A n c L x W (hA.later hb) hl (by omega) hu hr
    clear hA hB hl hk hu hr hn hm hc hd
    go_enter Try.func3, Try.ntmps3
    go_wp2_with fail
    refine (HF1.out _ (Below.refl w.heap.size w)).mono ?_
    rintro e w1 ⟨rfl, h1⟩
    have HB1 := Lib.hid (bt (Below.refl w.heap.size w) h1)
    clear h1
    go_wp2_with fail
    refine (HF2.out _ HB1.out).mono ?_
    rintro e w2 ⟨rfl, h2⟩
    have HB2 := Lib.hid (bt HB1.out h2)
    clear h2
    go_wp2_with fail
    refine (HC.out _ HB2.out).mono ?_
    rintro e w3 ⟨rfl, h3⟩
    have HB3 := Lib.hid (bt HB2.out h3)
    clear h3
    go_wp2_with fail
    refine (HA.out _ HB3.out).mono ?_
    rintro e w4 ⟨rfl, h4⟩
    have HB4 := Lib.hid (bt HB3.out h4)
    clear h4
    go_wp2_with fail
    refine (HR.out _ HB4.out).mono ?_
    rintro e w5 ⟨rfl, h5⟩
    have HB5 := Lib.hid (bt HB4.out h5)
    clear h5
    go_wp2_with fail
    refine (HQ.out _ HB5.out).mono ?_
    rintro e w6 ⟨rfl, h6⟩
    have HB6 := Lib.hid (bt HB5.out h6)
    clear h6
    go_wp2_with fail
    refine (HL.out _ HB6.out).mono ?_
    rintro e w7 ⟨rfl, h7⟩
    have HB7 := Lib.hid (bt HB6.out h7)
    clear h7
    go_wp2_with fail
    refine (HS.out _ HB7.out).mono ?_
    rintro e w8 ⟨rfl, h8⟩
    have HB8 := Lib.hid (bt HB7.out h8)
    clear h8
    go_wp2_with fail
    refine (HLL.out _ HB8.out).mono ?_
    rintro e w9 ⟨rfl, h9⟩
    have HB9 := Lib.hid (bt HB8.out h9)
    clear h9
    go_wp2_with fail
    refine (HV.out _ HB9.out).mono ?_
    rintro e w10 ⟨rfl, h10⟩
    have HB10 := Lib.hid (bt HB9.out h10)
    clear h10
    go_wp2_with fail
    refine (HQ.out _ HB10.out).mono ?_
    rintro e w11 ⟨rfl, h11⟩
    have HB11 := Lib.hid (bt HB10.out h11)
    clear h11
    go_wp2
    go_ret
    exact ⟨rfl, HB11.out⟩
theorem etells_any (A B : Option Addr) (c d : Nat) (L K : List Rn) (x : Int) (w : World) (hc : L.length ≤ c) (hd : K.length ≤ d) (hA : ER w A L) (hB : ER w B K) (hu : ∀ r ∈ L, EU r) (x0 : 0 ≤ x) (x1 : x ≤ 18446744073709551615) :
    Calls Try.prog 3 #[.slice A L.length c, .slice B K.length d, .int .u64 x] w fun e w' => e = .returned (.bool true) ∧ Below w.heap.size w w' :=
  etells_in A B L.length K.length _ _ c d (L.take 66) (K.take 66) x w hc hd rfl rfl (by rw [List.length_take, Nat.min_comm]) (by rw [List.length_take, Nat.min_comm]) (hA.take 66) (hB.take 66) (fun r hr => hu r (List.mem_of_mem_take hr)) x0 x1
end Go.Proofs.Ythimnpiiehggnaa
/- What every claim's last part wants: the parameters' forms. Nothing of any function, and of no type but those that every program has. -/
namespace Go.Proofs.Ythimnpiiehggnaa
open Go.ChangeShapes Go.WideShapes Go.ChangeAt Go.RowKit Go.Joins Go.Deep

theorem str_list (s : ByteArray) : ∃ l : List UInt8, s = ⟨l.toArray⟩ ∧ l.length = s.size := ⟨s.data.toList, rfl, Array.length_toList⟩
theorem Try.own : ownKnob Try.prog.godebug = none := by kernel_rfl
theorem Try.laidOut : laidOutB Try.prog = true := by kernel_rfl
theorem extract_take (s : List UInt8) (m : Nat) : (⟨s.toArray⟩ : ByteArray).extract 0 m = ⟨(s.take m).toArray⟩ := by
  apply ByteArray.ext
  apply Array.toList_inj.1
  rw [Lib.extract_data]
  simp

/-- What the arguments read as stays, whatever the call makes. -/
theorem trodAll_below_ {H : Type} {enc : TypeId × Value → H} {P : Program} (hl : laidOutB P = true) {W W' : World} (hb : Below W.heap.size W W') (ts : List TypeId) : ∀ {vs : List Value} {ds : List (DataW H)} {ps : List MemPlace},
    DataW.TrodAll enc P W 0 (fun _ => true) true ts vs ds ps → (∀ t ∈ ts, P.readableRec t = true ∧ t < P.types.size) → (∀ x ∈ ps, x.block < W.heap.size) →
    DataW.TrodAll enc P W' 0 (fun b => decide (b < W.heap.size)) true ts vs ds ps := by
  induction ts with
  | nil =>
    intro vs ds ps h _ _
    obtain ⟨rfl, rfl, rfl⟩ := trodAll_nil h
    rfl
  | cons t ts ih =>
    intro vs ds ps h ha hlt
    obtain ⟨v, vs', d, ds', p, q, rfl, rfl, rfl, h1, h2⟩ := trodAll_cons h
    have ht := ha t (List.mem_cons_self)
    exact trodAll_cons_mk (Below.trod hl ht.1 ht.2 h1 hb fun x hx => hlt x (List.mem_append_left _ hx)) (ih h2 (fun t h => ha t (List.mem_cons_of_mem _ h)) fun x hx => hlt x (List.mem_append_right _ hx))
theorem all_readable {P : Program} {ts : List TypeId} (h : (ts.all fun t => P.readableRec t && decide (t < P.types.size)) = true) : ∀ t ∈ ts, P.readableRec t = true ∧ t < P.types.size := by
  intro t ht
  have := List.all_eq_true.1 h t ht
  simpa using this
theorem u8_nat {n : Int} (h : (Lit.int .u8 n).wf = true) : ∃ m : Nat, n = (m : Int) ∧ (m : Int) < 256 := by
  simp [Lit.wf] at h
  have h1 : IntKind.u8.min = 0 := by decide
  have h2 : IntKind.u8.max = 255 := by decide
  rw [h1, h2] at h
  exact ⟨n.toNat, by omega, by omega⟩
theorem i64_bounds {n : Int} (h : (Lit.int .i64 n).wf = true) : -9223372036854775808 ≤ n ∧ n ≤ 9223372036854775807 := by
  have h1 : IntKind.i64.min = -9223372036854775808 := by decide
  simp [Lit.wf] at h
  rw [h1] at h
  exact h
end Go.Proofs.Ythimnpiiehggnaa
/- A uint64 and a uint32 as natural numbers. Nothing of any function. -/
namespace Go.Proofs.Ythimnpiiehggnaa
open Go.ChangeShapes Go.WideShapes Go.ChangeAt Go.RowKit Go.Joins Go.Deep

theorem u64_nat {n : Int} (h : (Lit.int .u64 n).wf = true) : ∃ m : Nat, n = (m : Int) ∧ m < 18446744073709551616 := by
  simp [Lit.wf] at h
  have h1 : IntKind.u64.min = 0 := by decide
  have h2 : IntKind.u64.max = 18446744073709551615 := by decide
  rw [h1, h2] at h
  exact ⟨n.toNat, by omega, by omega⟩
theorem u32_nat {n : Int} (h : (Lit.int .u32 n).wf = true) : ∃ m : Nat, n = (m : Int) ∧ m < 4294967296 := by
  simp [Lit.wf] at h
  have h1 : IntKind.u32.min = 0 := by decide
  have h2 : IntKind.u32.max = 4294967295 := by decide
  rw [h1, h2] at h
  exact ⟨n.toNat, by omega, by omega⟩
end Go.Proofs.Ythimnpiiehggnaa
/- Slices of structs of one-cell fields that came in as a parameter, opened. Nothing of any function. -/
namespace Go.Proofs.Ythimnpiiehggnaa
open Go.ChangeShapes Go.WideShapes Go.ChangeAt Go.RowKit Go.Joins Go.Deep
section
variable {H : Type} {enc : TypeId × Value → H} {P : Program} {w : World} {base : Nat} {spare : Nat → Bool} {held : Bool}
theorem iopen_slice_fields {t e : TypeId} {fs : Array Field} {fuel : Nat} {cs : List Value} {x : DataW H × List MemPlace} (ht : P.underlying t = some (.slice e)) (he : P.underlying e = some (.struct fs))
    (hone : oneCellFields P fs = true) (hC : P.cellsOf e = fs.size) (h : DataW.trod enc P w base spare held fuel t cs = some x) :
    (cs = [.slice none 0 0] ∧ x = (.nil, [])) ∨
    ∃ (a : Addr) (len cap m : Nat) (D : Nat → DataW H) (Pl : Nat → List MemPlace), cs = [.slice (some a) len cap] ∧ base ≤ a.block ∧ len ≤ cap ∧ cap ≤ maxLen ∧ m = (if spare a.block then cap else len) ∧
      x = (.slice ((List.range len).map D) ((List.range (m - len)).map fun j => D (len + j)), MemPlace.row a (m * fs.size) ++ (List.range m).flatMap Pl) ∧
      ∀ i, i < m → ∃ (ys : List (DataW H × List MemPlace)) (n : Nat), D i = .agg (ys.map (·.1)) ∧ Pl i = ys.flatMap (·.2) ∧ ys.length = fs.size ∧
        ∀ (j : Nat) (f : Field), fs[j]? = some f → ∃ (v : Value) (y : DataW H × List MemPlace), w.cell? (a.add (i * fs.size + j)) = some v ∧ ys[j]? = some y ∧ DataW.trod enc P w base spare held n f.type [v] = some y := by
  rcases open_slice ht h with h0 | ⟨a, len, cap, m, n, D, Pl, hcs, hb, hl, hm, hmm, hx, hi⟩
  · exact .inl h0
  · refine .inr ⟨a, len, cap, m, D, Pl, hcs, hb, hl, hm, hmm, by rw [hC] at hx; exact hx, fun i him => ?_⟩
    obtain ⟨cs', hc, ht'⟩ := hi i him
    rw [hC] at hc
    obtain ⟨ys, n', hn', hy, hlen, hyl, hf⟩ := DataW.trod_struct he ht'
    obtain ⟨_, hcl, hat⟩ := World.cells?_some hc
    simp only [Prod.mk.injEq] at hy
    refine ⟨ys, n', hy.1, hy.2, hyl, fun j f hj => ?_⟩
    obtain ⟨ho, hk⟩ := hone_of hone j f hj
    have hjl : j < fs.size := (Array.getElem?_eq_some_iff.1 hj).1
    have hcell := hat j hjl
    have hv : cs'[j]? = some (cs'[j]'(by omega)) := List.getElem?_eq_getElem (by omega)
    have h1 := hf j f hj
    rw [ho, hk] at h1
    have hone' : (cs'.drop j).take 1 = [cs'[j]'(by omega)] := by
      rw [List.drop_eq_getElem_cons (by omega)]
      rfl
    rw [hone'] at h1
    have hys : ys[j]? = some (ys[j]'(by omega)) := List.getElem?_eq_getElem (by omega)
    refine ⟨_, _, ?_, hys, h1.trans hys⟩
    rw [← Go.Deep.add_add, hcell, hv]
end

theorem ilist_of {α : Type} {Q : Nat → α → Prop} (n : Nat) (h : ∀ i, i < n → ∃ p, Q i p) : ∃ L : List α, L.length = n ∧ ∀ i (hi : i < L.length), Q i L[i] := by
  induction n with
  | zero => exact ⟨[], rfl, fun i hi => absurd hi (Nat.not_lt_zero i)⟩
  | succ n ih =>
    obtain ⟨L, hl, hq⟩ := ih (fun i hi => h i (by omega))
    obtain ⟨p, hp⟩ := h n (by omega)
    refine ⟨L ++ [p], by simp [hl], fun i hi => ?_⟩
    rw [List.getElem_append]
    split
    · exact hq i (by assumption)
    · have : i = n := by simp at hi; omega
      subst this
      simpa using hp
end Go.Proofs.Ythimnpiiehggnaa
