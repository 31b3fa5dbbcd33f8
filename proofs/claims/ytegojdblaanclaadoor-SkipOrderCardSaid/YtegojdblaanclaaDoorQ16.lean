/- Texts of this seat, one behind the other: ILawH, IOMath, ILawOAs. -/
import Derived.Deep.RegionHeld3
import Derived.Test.YtegojdblaanclaaDoorQ12
import Derived.Test.YtegojdblaanclaaDoorQ13
import Derived.Test.YtegojdblaanclaaDoorQ15
/- The walk of SkipHops. -/
namespace Go.Proofs.YtegojdblaanclaaDoor
open Go.RowKit

set_option maxRecDepth 100000 in
set_option maxHeartbeats 16000000 in
theorem ilawH_any (k0 : List UInt8) (A : Option Addr) (c k : Nat) (L0 : List ItL) (w : World) (hk0 : (k0.length : Int) ≤ 9223372036854775807) (hA0 : IR w A L0) (hc0 : L0.length ≤ c) (hx0 : ∀ x ∈ L0, x.1 < 18446744073709551616) (hT : VTab w) :
    Calls Tryd.prog 5 #[.string ⟨k0.toArray⟩, .slice A L0.length c, .int .u64 (k : Int)] w fun e w' => e = .returned (.bool true) ∧ Below w.heap.size w w' := by
  have hz0 := size_mk k0
  obtain ⟨N, hN⟩ : ∃ N, k0.length = N := ⟨_, rfl⟩
  obtain ⟨M, hM⟩ : ∃ M, L0.length = M := ⟨_, rfl⟩
  rw [hN] at hz0 hk0
  rw [hM] at hc0 ⊢
  obtain ⟨a, ha⟩ : ∃ a, min N 80 = a := ⟨_, rfl⟩
  obtain ⟨n, hn⟩ : ∃ n, min M 20 = n := ⟨_, rfl⟩
  have hex := extract_take k0 a
  have hkl : (k0.take a).length ≤ 60000 := by rw [List.length_take]; omega
  have hl9 : (L0.take n).length = n := by rw [List.length_take]; omega
  have hA : IR w A (L0.take n) := hA0.take n
  have hx9 : ∀ x ∈ L0.take n, x.1 < 18446744073709551616 := fun x hx => hx0 x (List.mem_of_mem_take hx)
  have h1 : (a : Int) ≤ (N : Int) := by omega
  have h2 : min (N : Int) 80 = (a : Int) := by omega
  have h3 : a ≤ N := by omega
  have h4 : min (M : Int) 20 = (n : Int) := by omega
  have hsl := icut_run A M c n (by omega)
  have hn20 : n ≤ 20 := by omega
  have hc : n ≤ c := by omega
  clear hA0 ha hn hN hM hx0
  generalize L0.take n = L at *
  generalize k0.take a = key at *
  have HAL := Lib.hid (fun W (hb : Below w.heap.size w W) => ialive_any W (hT.later hb))
  have HFI := Lib.hid (fun W (hb : Below w.heap.size w W) => ifind_any key A n c k L W hkl (hA.later hb) hl9 hc hx9 (by omega) (hT.later hb))
  have HRD := Lib.hid (fun j W (hj : j < n) (hb : Below w.heap.size w W) => (hA.later hb) j (by omega))
  by_cases hr : IRt L
  · have HIN : Hid (∀ j, j < n → (j < ileq L k ↔ (L.getD j (0, [])).1 ≤ k)) := Lib.hid fun j hj => ileq_in hr.up j (by omega)
    have HQ9 : Hid (ileq L k ≤ n) := Lib.hid (by have := ileq_len L k; omega)
    by_cases hq : ileq L k = 0
    · obtain ⟨e1, e2, e3⟩ := ifind_none key hr hq
      rw [e1, e2, e3] at HFI
      rw [hq] at HIN
      clear hA hl9 hx9 hkl hT e1 e2 e3 hq hr HQ9
      rcases Nat.eq_zero_or_pos n with h0 | h0
      · subst h0
        clear HRD HIN
        go_enter Tryd.func5, Tryd.ntmps5
        go_wp2_with fail
        go_quiet (fail)
        have hb0 : Below w.heap.size w (w.drewN nq) := below_drewN (Below.refl _ _) _
        generalize w.drewN nq = w0 at hb0 ⊢
        have B0 := Lib.hid hb0
        clear hsl hex hz0 h1 h2 h3 h4 hk0 hc0 hb0
        go_wp2_with fail
        refine (HFI.out _ B0.out).mono ?_
        rintro e w1 ⟨C1, d1, rfl, _, hb⟩
        have B1 := Lib.hid (bt B0.out hb)
        clear hb B0
        go_wp2_with fail
        refine (HAL.out _ B1.out).mono ?_
        rintro e w2 ⟨rfl, hb⟩
        have B2 := Lib.hid (bt B1.out hb)
        clear hb B1
        go_wp2
        go_ret
        exact ⟨rfl, B2.out⟩
      · have hgt : ¬ (L.getD 0 (0, [])).1 ≤ k := fun h => absurd ((HIN.out 0 h0).2 h) (by omega)
        go_enter Tryd.func5, Tryd.ntmps5
        go_wp2_with fail
        go_quiet (fail)
        have hb0 : Below w.heap.size w (w.drewN nq) := below_drewN (Below.refl _ _) _
        generalize w.drewN nq = w0 at hb0 ⊢
        have B0 := Lib.hid hb0
        clear hsl hex hz0 h1 h2 h3 h4 hk0 hc0 hb0
        go_wp2_with fail
        refine (HFI.out _ B0.out).mono ?_
        rintro e w1 ⟨C1, d1, rfl, _, hb⟩
        have B1 := Lib.hid (bt B0.out hb)
        clear hb B0
        go_wp2_with fail
        refine (HAL.out _ B1.out).mono ?_
        rintro e w2 ⟨rfl, hb⟩
        have B2 := Lib.hid (bt B1.out hb)
        clear hb B1
        obtain ⟨g, off, rfl, c0, c1⟩ := HRD.out 0 w2 h0 B2.out
        generalize L.getD 0 (0, []) = x at *
        obtain ⟨xk, xs⟩ := x
        simp only [Nat.zero_mul, Nat.add_zero] at c0 c1 hgt
        have q1 : (k : Int) < (xk : Int) := by omega
        have q2 : ((n : Int) == 0) = false := by simp; omega
        have q3 : (0 : Int) < (n : Int) := by omega
        clear HIN HRD hgt
        go_wp2
        go_ret
        exact ⟨rfl, B2.out⟩
    · obtain ⟨e1, e2, e3⟩ := ifind_yes key hr hq
      rw [e1, e2, e3] at HFI
      have hgd := ihops_good (ihts key L k)
      have HL9 : Hid (0 < (ihops (ihts key L k)).length ∧ ((ihops (ihts key L k)).getD ((ihops (ihts key L k)).length - 1) (0, 0)).2 + 1 = ileq L k) := Lib.hid ⟨by
        rw [List.length_pos_iff]
        intro e
        have h8 := (ihops_none (ihts_pos key L k)).1 e
        have h9 := ihts_len key L k
        rw [h8] at h9
        exact hq h9.symm, by rw [ihops_last (ihts_pos key L k) (by rw [ihts_len]; omega), ihts_len]⟩
      have HOL : Hid ((ihops (ihts key L k)).length ≤ 1024) := Lib.hid (by have h8 := ihops_len (ihts key L k); have h9 := ihts_len key L k; have := ileq_len L k; omega)
      have HG1 : Hid (∀ i, i < (ihops (ihts key L k)).length → ((ihops (ihts key L k)).getD i (0, 0)).1 ≤ 7) := Lib.hid fun i hi => (hgd.1 i hi).1
      have HG2 : Hid (∀ i, i + 1 < (ihops (ihts key L k)).length → ((ihops (ihts key L k)).getD i (0, 0)).2 < ((ihops (ihts key L k)).getD (i + 1) (0, 0)).2 ∧ ((ihops (ihts key L k)).getD (i + 1) (0, 0)).1 ≤ ((ihops (ihts key L k)).getD i (0, 0)).1) := Lib.hid fun i hi => by have := hgd.2.1 (i + 1) hi (by omega); rwa [Nat.add_sub_cancel] at this
      obtain ⟨r, hr9⟩ : ∃ r, ileq L k = r + 1 := ⟨ileq L k - 1, by omega⟩
      rw [hr9] at HL9 HIN HQ9
      rw [hr9, Nat.add_sub_cancel] at HFI
      generalize ihops (ihts key L k) = O at *
      obtain ⟨m, hm⟩ : ∃ m, O.length = m + 1 := ⟨O.length - 1, by have := HL9.out.1; omega⟩
      have hm2 : m + 1 ≤ 1024 := by have := HOL.out; omega
      have HLA : Hid ((O.getD m (0, 0)).2 = r) := Lib.hid (by have h8 := HL9.out.2; rw [hm, Nat.add_sub_cancel] at h8; omega)
      have hrn : r < n := by have := HQ9.out; omega
      have HK1 : Hid ((L.getD r (0, [])).1 ≤ k) := Lib.hid ((HIN.out r hrn).1 (by omega))
      have HK2 : Hid (∀ h : r + 1 < n, ¬ (L.getD (r + 1) (0, [])).1 ≤ k) := Lib.hid fun h h8 => absurd ((HIN.out (r + 1) h).2 h8) (by omega)
      rw [hm] at HG1 HG2
      have HOM : Hid (O.length = m + 1) := Lib.hid hm
      rw [hm] at HFI
      clear hA hl9 hx9 hkl hT e1 e2 e3 hq hr hr9 HOL HIN HQ9 HL9 hgd hm
      go_enter Tryd.func5, Tryd.ntmps5
      go_wp2_with fail
      go_quiet (fail)
      have hb0 : Below w.heap.size w (w.drewN nq) := below_drewN (Below.refl _ _) _
      generalize w.drewN nq = w0 at hb0 ⊢
      have B0 := Lib.hid hb0
      clear hsl hex hz0 h1 h2 h3 h4 hk0 hc0 hb0
      go_wp2_with fail
      refine (HFI.out _ B0.out).mono ?_
      rintro e w1 ⟨C1, d1, rfl, hO1, hb⟩
      have B1 := Lib.hid (bt B0.out hb)
      clear hb B0
      obtain ⟨g, off, rfl, o0, o1⟩ := hO1 m (by rw [HOM.out]; omega)
      have HO1 := Lib.hid hO1
      rw [HLA.out] at o1
      obtain ⟨g8, off8, rfl, c0, c1⟩ := HRD.out r w1 hrn B1.out
      have hk1 := HK1.out
      generalize L.getD r (0, []) = x at c0 c1 hk1
      obtain ⟨xk, xs⟩ := x
      simp only at c0 c1 hk1
      have q1 : ¬ (k : Int) < (xk : Int) := by omega
      have q2 : ((m : Int) + 1 == 0) = false := by simp; omega
      have q3 : (0 : Int) ≤ (m : Int) := by omega
      have q4 : (m : Int) < (m : Int) + 1 := by omega
      have q5 : (0 : Int) ≤ (r : Int) := by omega
      have q6 : (r : Int) < (n : Int) := by omega
      have q7 : ¬ (n : Int) ≤ (r : Int) := by omega
      have q11 : decide (n ≤ r) = false := by simp; omega
      have q12 : decide (k < xk) = false := by simp; omega
      clear HLA HK1 hk1 hO1
      by_cases hrn2 : r + 1 < n
      · obtain ⟨g7, off7, e7, z0, z1⟩ := HRD.out (r + 1) w1 hrn2 B1.out
        obtain ⟨rfl, rfl⟩ : g8 = g7 ∧ off8 = off7 := by injection e7 with e7; injection e7 with e8 e9; exact ⟨e8, e9⟩
        have hk2 := HK2.out hrn2
        generalize L.getD (r + 1) (0, []) = y at z0 z1 hk2
        obtain ⟨yk, ys⟩ := y
        simp only at z0 z1 hk2
        have q8 : ¬ (yk : Int) ≤ (k : Int) := by omega
        have q13 : decide (yk ≤ k) = false := by simp; omega
        have q9 : (r : Int) + 1 < (n : Int) := by omega
        have q10 : (0 : Int) ≤ (r : Int) + 1 := by omega
        clear HK2 hk2
        go_wp2_with fail
        refine (HAL.out _ B1.out).mono ?_
        rintro e w2 ⟨rfl, hb⟩
        have B2 := Lib.hid (bt B1.out hb)
        replace HO1 := Lib.hid (HO1.out.later hb)
        clear hb B1
        clear c0 c1 o0 o1 z0 z1 HAL HRD
        go_wp2_with fail
        go_loopw [107] (fun iv wr => ∃ j : Nat, j ≤ m + 1 ∧ iv = .int .i64 (j : Int) ∧ Hid (OR wr (some ⟨g, off, none⟩) O) ∧ Hid (Below w.heap.size w wr)) (fun i _ => m + 1 - (intOf i).toNat)
        case atStart => exact ⟨0, Nat.zero_le _, rfl, HO1, B2⟩
        case round =>
          clear HO1 B2
          obtain ⟨j, hj, rfl, HO, HB⟩ := hrel
          by_cases hlt : j < m + 1
          · obtain ⟨g5, off5, e5, p0, p1⟩ := HO.out j (by rw [HOM.out]; exact hlt)
            obtain ⟨rfl, rfl⟩ : g = g5 ∧ off = off5 := by injection e5 with e5; injection e5 with e6 e7; exact ⟨e6, e7⟩
            have hv7 := HG1.out j hlt
            have i0 : (0 : Int) ≤ (j : Int) := by omega
            have i1 : (j : Int) < (m : Int) + 1 := by omega
            rcases Nat.eq_zero_or_pos j with rfl | hj0
            · generalize O.getD 0 (0, 0) = v at *
              obtain ⟨vl, va⟩ := v
              simp only [Nat.zero_mul, Nat.add_zero] at p0 p1 hv7
              have u1 : decide ((vl : Int) < 0) = false := by simp
              have u2 : decide ((8 : Int) ≤ (vl : Int)) = false := by simp; omega
              have u3 : decide ((0 : Int) < 0) = false := by simp
              have hb2 := fun nq => below_drewN (ba (Below.refl wr.heap.size wr) (.cells #[vi vl, vi va] 45)) nq
              have HO2 := Lib.hid (fun nq => HO.out.later (hb2 nq))
              have HB2 := Lib.hid (fun nq => bt HB.out (hb2 nq))
              clear hb2
              go_wp2_with fail
              go_quiet (fail)
              go_wp2
              exact ⟨⟨1, by omega, by go_num, Lib.hid (HO2.out _), Lib.hid (HB2.out _)⟩, by simp [intOf]⟩
            · obtain ⟨t, rfl⟩ : ∃ t, j = t + 1 := ⟨j - 1, by omega⟩
              obtain ⟨g6, off6, e6, r0, r1⟩ := HO.out t (by rw [HOM.out]; omega)
              obtain ⟨rfl, rfl⟩ : g = g6 ∧ off = off6 := by injection e6 with e6; injection e6 with e7 e8; exact ⟨e7, e8⟩
              have hg2 := HG2.out t hlt
              generalize O.getD (t + 1) (0, 0) = v at *
              generalize O.getD t (0, 0) = y at *
              obtain ⟨vl, va⟩ := v
              obtain ⟨yl, ya⟩ := y
              simp only at p0 p1 r0 r1 hv7 hg2
              have hb2 := fun nq => below_drewN (ba (Below.refl wr.heap.size wr) (.cells #[vi vl, vi va] 45)) nq
              have HO2 := Lib.hid (fun nq => HO.out.later (hb2 nq))
              have HB2 := Lib.hid (fun nq => bt HB.out (hb2 nq))
              have r2 : (wr.alloc (.cells #[vi vl, vi va] 45)).cell? ⟨g, off + t * 2, none⟩ = some (vi yl) := cell_later (ba (Below.refl _ _) _) r0
              have r3 : (wr.alloc (.cells #[vi vl, vi va] 45)).cell? ⟨g, off + t * 2 + 1, none⟩ = some (vi ya) := cell_later (ba (Below.refl _ _) _) r1
              have u1 : decide ((vl : Int) < 0) = false := by simp
              have u2 : decide ((8 : Int) ≤ (vl : Int)) = false := by simp; omega
              have u3 : (0 : Int) < (t : Int) + 1 := by omega
              have u4 : decide ((va : Int) ≤ (ya : Int)) = false := by simp; omega
              have u5 : decide ((yl : Int) < (vl : Int)) = false := by simp; omega
              have u11 : decide (va ≤ ya) = false := by simp; omega
              have u12 : decide (yl < vl) = false := by simp; omega
              have u6 : IntKind.i64.wrap ((t : Int) + 1 - 1) = (t : Int) := by rw [IntKind.wrap_i64]; omega
              have u7 : (0 : Int) ≤ (t : Int) := by omega
              have u8 : (t : Int) < (m : Int) + 1 := by omega
              have u9 : IntKind.i64.wrap (t : Int) = (t : Int) := by rw [IntKind.wrap_i64]; omega
              have u10 : (0 : Int) < ((t + 1 : Nat) : Int) := by omega
              clear hb2 hg2
              go_wp2_with fail
              go_quiet (fail)
              go_wp2
              exact ⟨⟨t + 1 + 1, by omega, by go_num, Lib.hid (HO2.out _), Lib.hid (HB2.out _)⟩, by simp [intOf]; omega⟩
          · obtain rfl : j = m + 1 := by omega
            go_wp2
            go_ret
            exact ⟨rfl, HB.out⟩
      · have q9 : ¬ (r : Int) + 1 < (n : Int) := by omega
        have q14 : decide ((r : Int) + 1 < (n : Int)) = false := by simp; omega
        clear HK2
        go_wp2_with fail
        refine (HAL.out _ B1.out).mono ?_
        rintro e w2 ⟨rfl, hb⟩
        have B2 := Lib.hid (bt B1.out hb)
        replace HO1 := Lib.hid (HO1.out.later hb)
        clear hb B1
        clear c0 c1 o0 o1 HAL HRD
        go_wp2_with fail
        go_loopw [107] (fun iv wr => ∃ j : Nat, j ≤ m + 1 ∧ iv = .int .i64 (j : Int) ∧ Hid (OR wr (some ⟨g, off, none⟩) O) ∧ Hid (Below w.heap.size w wr)) (fun i _ => m + 1 - (intOf i).toNat)
        case atStart => exact ⟨0, Nat.zero_le _, rfl, HO1, B2⟩
        case round =>
          clear HO1 B2
          obtain ⟨j, hj, rfl, HO, HB⟩ := hrel
          by_cases hlt : j < m + 1
          · obtain ⟨g5, off5, e5, p0, p1⟩ := HO.out j (by rw [HOM.out]; exact hlt)
            obtain ⟨rfl, rfl⟩ : g = g5 ∧ off = off5 := by injection e5 with e5; injection e5 with e6 e7; exact ⟨e6, e7⟩
            have hv7 := HG1.out j hlt
            have i0 : (0 : Int) ≤ (j : Int) := by omega
            have i1 : (j : Int) < (m : Int) + 1 := by omega
            rcases Nat.eq_zero_or_pos j with rfl | hj0
            · generalize O.getD 0 (0, 0) = v at *
              obtain ⟨vl, va⟩ := v
              simp only [Nat.zero_mul, Nat.add_zero] at p0 p1 hv7
              have u1 : decide ((vl : Int) < 0) = false := by simp
              have u2 : decide ((8 : Int) ≤ (vl : Int)) = false := by simp; omega
              have u3 : decide ((0 : Int) < 0) = false := by simp
              have hb2 := fun nq => below_drewN (ba (Below.refl wr.heap.size wr) (.cells #[vi vl, vi va] 45)) nq
              have HO2 := Lib.hid (fun nq => HO.out.later (hb2 nq))
              have HB2 := Lib.hid (fun nq => bt HB.out (hb2 nq))
              clear hb2
              go_wp2_with fail
              go_quiet (fail)
              go_wp2
              exact ⟨⟨1, by omega, by go_num, Lib.hid (HO2.out _), Lib.hid (HB2.out _)⟩, by simp [intOf]⟩
            · obtain ⟨t, rfl⟩ : ∃ t, j = t + 1 := ⟨j - 1, by omega⟩
              obtain ⟨g6, off6, e6, r0, r1⟩ := HO.out t (by rw [HOM.out]; omega)
              obtain ⟨rfl, rfl⟩ : g = g6 ∧ off = off6 := by injection e6 with e6; injection e6 with e7 e8; exact ⟨e7, e8⟩
              have hg2 := HG2.out t hlt
              generalize O.getD (t + 1) (0, 0) = v at *
              generalize O.getD t (0, 0) = y at *
              obtain ⟨vl, va⟩ := v
              obtain ⟨yl, ya⟩ := y
              simp only at p0 p1 r0 r1 hv7 hg2
              have hb2 := fun nq => below_drewN (ba (Below.refl wr.heap.size wr) (.cells #[vi vl, vi va] 45)) nq
              have HO2 := Lib.hid (fun nq => HO.out.later (hb2 nq))
              have HB2 := Lib.hid (fun nq => bt HB.out (hb2 nq))
              have r2 : (wr.alloc (.cells #[vi vl, vi va] 45)).cell? ⟨g, off + t * 2, none⟩ = some (vi yl) := cell_later (ba (Below.refl _ _) _) r0
              have r3 : (wr.alloc (.cells #[vi vl, vi va] 45)).cell? ⟨g, off + t * 2 + 1, none⟩ = some (vi ya) := cell_later (ba (Below.refl _ _) _) r1
              have u1 : decide ((vl : Int) < 0) = false := by simp
              have u2 : decide ((8 : Int) ≤ (vl : Int)) = false := by simp; omega
              have u3 : (0 : Int) < (t : Int) + 1 := by omega
              have u4 : decide ((va : Int) ≤ (ya : Int)) = false := by simp; omega
              have u5 : decide ((yl : Int) < (vl : Int)) = false := by simp; omega
              have u11 : decide (va ≤ ya) = false := by simp; omega
              have u12 : decide (yl < vl) = false := by simp; omega
              have u6 : IntKind.i64.wrap ((t : Int) + 1 - 1) = (t : Int) := by rw [IntKind.wrap_i64]; omega
              have u7 : (0 : Int) ≤ (t : Int) := by omega
              have u8 : (t : Int) < (m : Int) + 1 := by omega
              have u9 : IntKind.i64.wrap (t : Int) = (t : Int) := by rw [IntKind.wrap_i64]; omega
              have u10 : (0 : Int) < ((t + 1 : Nat) : Int) := by omega
              clear hb2 hg2
              go_wp2_with fail
              go_quiet (fail)
              go_wp2
              exact ⟨⟨t + 1 + 1, by omega, by go_num, Lib.hid (HO2.out _), Lib.hid (HB2.out _)⟩, by simp [intOf]; omega⟩
          · obtain rfl : j = m + 1 := by omega
            go_wp2
            go_ret
            exact ⟨rfl, HB.out⟩
  · obtain ⟨e1, e2, e3⟩ := ifind_bad key k hr
    rw [e1, e2, e3] at HFI
    clear hA hl9 hx9 hkl hT e1 e2 e3 hr HRD
    go_enter Tryd.func5, Tryd.ntmps5
    go_wp2_with fail
    go_quiet (fail)
    have hb0 : Below w.heap.size w (w.drewN nq) := below_drewN (Below.refl _ _) _
    generalize w.drewN nq = w0 at hb0 ⊢
    have B0 := Lib.hid hb0
    clear hsl hex hz0 h1 h2 h3 h4 hk0 hc0 hb0
    go_wp2_with fail
    refine (HFI.out _ B0.out).mono ?_
    rintro e w1 ⟨C1, d1, rfl, _, hb⟩
    have B1 := Lib.hid (bt B0.out hb)
    clear hb B0
    go_wp2_with fail
    refine (HAL.out _ B1.out).mono ?_
    rintro e w2 ⟨rfl, hb⟩
    have B2 := Lib.hid (bt B1.out hb)
    clear hb B1
    go_wp2
    go_ret
    exact ⟨rfl, B2.out⟩
end Go.Proofs.YtegojdblaanclaaDoor
/- What SkipOrder asks of lists, in plain words, and its calls' contracts. -/
namespace Go.Proofs.YtegojdblaanclaaDoor
open Go.RowKit

theorem iput_zero {L : List ItL} {x : ItL} (h : iputE L x = 0) : IRt L ∧ x.2.length ≤ 64 ∧ (ihas L x.1 ∨ L.length < 64) ∧ iputR L x = iput L x := by
  by_cases h1 : IRt L
  · by_cases h2 : x.2.length ≤ 64
    · by_cases h3 : ihas L x.1 ∨ L.length < 64
      · exact ⟨h1, h2, h3, (iputE_yes h1 h2 h3).2⟩
      · have := (iputE_space h1 h2 h3).1; omega
    · have := (iputE_size h1 h2).1; omega
  · have := (iputE_bad (x := x) h1).1; omega
theorem iput_not {L : List ItL} {x : ItL} (h : ¬ iputE L x = 0) : iputR L x = [] := by rw [iputR, if_neg h]
theorem ileq_has {L : List ItL} {k : Nat} (hu : IUp L) (h : ihas L k) : ∃ p, p < L.length ∧ ik L p = k ∧ ileq L k = p + 1 := by
  have hp := ipos_less k hu
  obtain ⟨h1, h2⟩ := (hp.has hu).1 h
  exact ⟨_, h1, h2, by rw [hp.leq hu, if_pos ⟨h1, h2⟩]⟩
theorem iput_at {L : List ItL} {x : ItL} (hu : IUp L) : ∃ p, p < (iput L x).length ∧ (iput L x).getD p (0, []) = x ∧ ileq (iput L x) x.1 = p + 1 := by
  obtain ⟨p, h1, h2, h3⟩ := ileq_has (iup_put x hu) ⟨x, iput_mem.2 (.inl rfl), rfl⟩
  refine ⟨p, h1, ?_, h3⟩
  rcases iput_mem.1 (ik_mem h1) with h | ⟨_, h⟩
  · exact h
  · exact absurd h2 h
theorem idrop_one {L : List ItL} {x : ItL} (h : IUp L) (hn : ¬ ihas L x.1) : idrop (iput L x) x.1 = L := idrop_put h hn
theorem ifindA_not {L : List ItL} {k : Nat} (hr : IRt L) (hn : ¬ ihas L k) (hq : ileq L k ≠ 0) : ifindA L k < L.length ∧ (L.getD (ifindA L k) (0, [])).1 ≠ k := by
  have h1 := (ifind_yes [] hr hq).2.2
  have h2 := ileq_len L k
  rw [h1]
  have h3 : ileq L k - 1 < L.length := by omega
  exact ⟨h3, fun e => hn ⟨_, ik_mem h3, e⟩⟩
theorem isame_yes (A B : Option Addr) (c d n m : Nat) (P Q : List ItL) (w : World) (hA : IR w A P) (hB : IR w B Q) (he : P = Q) (hn : P.length = n) (hm : Q.length = m) (h : n ≤ 65536) :
    Calls Tryd.prog 13 #[.slice A n c, .slice B m d] w fun e w' => e = .returned (.bool true) ∧ Below w.heap.size w w' := by
  subst he
  have hnm : n = m := by rw [← hn, hm]
  have h := isame_any A B c d n m P P w hA hB hn hm h (by omega)
  rwa [show decide (P = P) = true from decide_eq_true rfl] at h
/-- Find, whatever the hops. -/
theorem ifind_at (key : List UInt8) (A : Option Addr) (n c k : Nat) (L : List ItL) (w : World) (hkey : key.length ≤ 60000) (hA : IR w A L) (hl : L.length = n) (hc : n ≤ c) (hx : ∀ x ∈ L, x.1 < 18446744073709551616) (hn : n ≤ 1024) (hT : VTab w) :
    Calls Tryd.prog 18 #[.string ⟨key.toArray⟩, .slice A n c, vu k] w fun e w' => ∃ B m d, e = .returned (.tuple #[.int .i64 (ifindA L k : Int), .slice B m d, .int .i64 (ifindE L k)]) ∧ Below w.heap.size w w' := by
  refine (ifind_any key A n c k L w hkey hA hl hc hx hn hT).mono ?_
  rintro e w' ⟨B, d, rfl, _, hb⟩
  exact ⟨B, _, d, rfl, hb⟩
end Go.Proofs.YtegojdblaanclaaDoor
/- The walk of SkipOrder. -/
namespace Go.Proofs.YtegojdblaanclaaDoor
open Go.RowKit

set_option maxRecDepth 100000 in
set_option maxHeartbeats 32000000 in
theorem ilawO_As (A : Option Addr) (c xk yk : Nat) (xs ys : List UInt8) (L0 : List ItL) (w : World) (hA0 : IR w A L0) (hc0 : L0.length ≤ c) (hx0 : ∀ x ∈ L0, x.1 < 18446744073709551616) (hm1 : xk < 18446744073709551616) (hT : VTab w) (hE : iputE (L0.take (min L0.length 60)) (xk, xs) = 0) (hh : ihas (L0.take (min L0.length 60)) xk) (hy : ¬ ys.length ≤ 64) :
    Calls Tryd.prog 6 #[.slice A L0.length c, .agg #[.int .u64 (xk : Int), sv xs], .agg #[.int .u64 (yk : Int), sv ys]] w fun e w' => e = .returned (.bool true) ∧ Below w.heap.size w w' := by
  obtain ⟨M, hM⟩ : ∃ M, L0.length = M := ⟨_, rfl⟩
  rw [hM] at hc0 ⊢
  obtain ⟨n, hn⟩ : ∃ n, min M 60 = n := ⟨_, rfl⟩
  have hl : (L0.take n).length = n := by rw [List.length_take]; omega
  have hA : IR w A (L0.take n) := hA0.take n
  have hx9 : ∀ x ∈ L0.take n, x.1 < 18446744073709551616 := fun x hx => hx0 x (List.mem_of_mem_take hx)
  have h4 : min (M : Int) 60 = (n : Int) := by omega
  have hsl := icut_run A M c n (by omega)
  have hn60 : n ≤ 60 := by omega
  have hc : n ≤ c := by omega
  have HAL := Lib.hid (fun W (hb : Below w.heap.size w W) => ialive_any W (hT.later hb))
  have B0 := Lib.hid (ba (ba (Below.refl w.heap.size w) (.cells #[.int .u64 (xk : Int), sv xs] 25)) (.cells #[.int .u64 (yk : Int), sv ys] 25))
  have X0 : Hid (Blk ((w.alloc (.cells #[.int .u64 (xk : Int), sv xs] 25)).alloc (.cells #[.int .u64 (yk : Int), sv ys] 25)) w.heap.size 25 #[.int .u64 (xk : Int), sv xs]) := Lib.hid ((Blk.new w _ _).alloc _)
  have Y0 : Hid (Blk ((w.alloc (.cells #[.int .u64 (xk : Int), sv xs] 25)).alloc (.cells #[.int .u64 (yk : Int), sv ys] 25)) (w.heap.size + 1) 25 #[.int .u64 (yk : Int), sv ys]) := Lib.hid (Blk.newAt (by simp) _ _)
  rw [hM, hn] at hE hh
  clear hA0 hx0 hM hn
  generalize L0.take n = L at *
  obtain ⟨hr, hv, hs, hP9⟩ := iput_zero hE
  have hP : IRt (iput L (xk, xs)) := irt_put hr hv hs
  have hPl : (iput L (xk, xs)).length ≤ 61 := by have := iput_len (L := L) (xk, xs); omega
  have hPx : ∀ x ∈ iput L (xk, xs), x.1 < 18446744073709551616 := fun x hx => by
    rcases iput_mem.1 hx with rfl | ⟨h, _⟩
    · exact hm1
    · exact hx9 x h
  have hPh : ihas (iput L (xk, xs)) xk := ⟨(xk, xs), iput_mem.2 (.inl rfl), rfl⟩
  have hD : IRt (idrop (iput L (xk, xs)) xk) := irt_drop hP
  have hDl : (idrop (iput L (xk, xs)) xk).length ≤ 61 := by have := List.length_filter_le (fun y : ItL => decide (y.1 ≠ xk)) (iput L (xk, xs)); rw [idrop]; omega
  obtain ⟨r1, hr1, hr2, hr3⟩ := iput_at (x := (xk, xs)) hr.up
  obtain ⟨f1, _, f3⟩ := ifind_yes [107] hP (k := xk) (by have h : ileq (iput L (xk, xs)) xk = r1 + 1 := hr3; omega)
  have f4 : ifindA (iput L (xk, xs)) xk = r1 := by rw [f3]; have h : ileq (iput L (xk, xs)) xk = r1 + 1 := hr3; omega
  obtain ⟨g1, g2⟩ := idropE_yes hP hPh
  obtain ⟨q1, q2⟩ := idropE_none hD (idrop_not (iput L (xk, xs)) xk)
  have HPX := Lib.hid (fun W (hb : Below w.heap.size w W) => iput_any A n c xk xs L W (hA.later hb) hl hc (by omega))
  rw [hE, hP9] at HPX
  have HFP := Lib.hid (fun C d W (hb : Below w.heap.size w W) (h1 : IR W C (iput L (xk, xs))) (h2 : (iput L (xk, xs)).length ≤ d) => ifind_at [107] C (iput L (xk, xs)).length d xk (iput L (xk, xs)) W (by simp) h1 rfl h2 hPx (by omega) (hT.later hb))
  rw [f1, f4] at HFP
  have HDP := Lib.hid (fun C d W (h1 : IR W C (iput L (xk, xs))) (h2 : (iput L (xk, xs)).length ≤ d) => idrop_any C (iput L (xk, xs)).length d xk (iput L (xk, xs)) W h1 rfl h2 (by omega))
  rw [g1, g2] at HDP
  have HDD := Lib.hid (fun C d W (h1 : IR W C (idrop (iput L (xk, xs)) xk)) (h2 : (idrop (iput L (xk, xs)) xk).length ≤ d) => idrop_any C (idrop (iput L (xk, xs)) xk).length d xk (idrop (iput L (xk, xs)) xk) W h1 rfl h2 (by omega))
  rw [q1, q2] at HDD
  have HRP := Lib.hid (fun C d W (h1 : IR W C (iput L (xk, xs))) => iright_any C (iput L (xk, xs)).length d (iput L (xk, xs)) W h1 rfl (by omega))
  rw [decide_eq_true hP] at HRP
  have HFL := Lib.hid (fun W (hb : Below w.heap.size w W) => ifind_at [107] A n c xk L W (by simp) (hA.later hb) hl hc hx9 (by omega) (hT.later hb))
  have HRD := Lib.hid (fun j W (hj : j < n) (hb : Below w.heap.size w W) => (hA.later hb) j (by omega))
  have HPY := Lib.hid (fun C d W (h1 : IR W C (iput L (xk, xs))) (h2 : (iput L (xk, xs)).length ≤ d) => iput_any C (iput L (xk, xs)).length d yk ys (iput L (xk, xs)) W h1 rfl h2 (by omega))
  have HLY := Lib.hid (fun W (hb : Below w.heap.size w W) => iput_any A n c yk ys L W (hA.later hb) hl hc (by omega))
  obtain ⟨p2, t1, t2, t3⟩ := ileq_has hr.up hh
  obtain ⟨u1, _, u3⟩ := ifind_yes [107] hr (k := xk) (by omega)
  rw [u1, u3, t3, Nat.add_sub_cancel] at HFL
  rw [hl] at t1
  obtain ⟨z1, z2⟩ := iputE_size (x := (yk, ys)) hP hy
  obtain ⟨z3, z4⟩ := iputE_size (x := (yk, ys)) hr hy
  rw [z1, z2] at HPY
  rw [z3, z4] at HLY
  have hr2' : (iput L (xk, xs)).getD r1 (0, []) = (xk, xs) := hr2
  clear hA hl hx9 hT hE hm1 hr hv hs hP9 hP hPl hPx hPh hD hDl hr2 hr3 f1 f3 f4 g1 g2 q1 q2 hh u1 u3 t3 z1 z2 z3 z4 hy
  generalize idrop (iput L (xk, xs)) xk = D at *
  generalize iput L (xk, xs) = P at *
  go_enter Tryd.func6, Tryd.ntmps6
  have k0 := X0.out.cell 0
  have k1 := X0.out.cell 1
  simp only [List.getElem?_toArray, List.getElem?_cons_zero, List.getElem?_cons_succ] at k0 k1
  go_wp2_with fail
  refine (HPX.out _ B0.out).mono ?_
  rintro e w1 ⟨C1, d1, rfl, hd1, hI1, hb⟩
  have B1 := Lib.hid (bt B0.out hb)
  have X1 := Lib.hid (X0.out.below hb)
  have Y1 := Lib.hid (Y0.out.below hb)
  clear hb B0 X0 Y0 k0 k1
  have HI1 := Lib.hid hI1
  clear hI1 HPX hsl h4
  have k0 := X1.out.cell 0
  have k1 := X1.out.cell 1
  simp only [List.getElem?_toArray, List.getElem?_cons_zero, List.getElem?_cons_succ] at k0 k1
  go_wp2_with fail
  refine (HFP.out C1 d1 _ B1.out HI1.out hd1).mono ?_
  rintro e w2 ⟨F1, m1, e1, rfl, hb⟩
  have B2 := Lib.hid (bt B1.out hb)
  have X2 := Lib.hid (X1.out.below hb)
  have Y2 := Lib.hid (Y1.out.below hb)
  replace HI1 := Lib.hid (HI1.out.later hb)
  clear hb B1 X1 Y1 k0 k1
  have k0 := X2.out.cell 0
  have k1 := X2.out.cell 1
  simp only [List.getElem?_toArray, List.getElem?_cons_zero, List.getElem?_cons_succ] at k0 k1
  go_wp2_with fail
  refine (HDP.out C1 d1 _ HI1.out hd1).mono ?_
  rintro e w3 ⟨C2, d2, rfl, hd2, hI2, hb⟩
  have B3 := Lib.hid (bt B2.out hb)
  have X3 := Lib.hid (X2.out.below hb)
  have Y3 := Lib.hid (Y2.out.below hb)
  replace HI1 := Lib.hid (HI1.out.later hb)
  clear hb B2 X2 Y2 k0 k1
  have HI2 := Lib.hid hI2
  clear hI2 HFP HDP
  have k0 := X3.out.cell 0
  have k1 := X3.out.cell 1
  simp only [List.getElem?_toArray, List.getElem?_cons_zero, List.getElem?_cons_succ] at k0 k1
  go_wp2_with fail
  refine (HDD.out C2 d2 _ HI2.out hd2).mono ?_
  rintro e w4 ⟨C3, d3, rfl, _, _, hb⟩
  have B4 := Lib.hid (bt B3.out hb)
  have X4 := Lib.hid (X3.out.below hb)
  have Y4 := Lib.hid (Y3.out.below hb)
  replace HI1 := Lib.hid (HI1.out.later hb)
  replace HI2 := Lib.hid (HI2.out.later hb)
  clear hb B3 X3 Y3 k0 k1
  clear HDD
  obtain ⟨ga, oa, e9, p0, p1⟩ := HI1.out r1 hr1
  subst e9
  rw [hr2'] at p0 p1
  have b1 : ¬ (P.length : Int) ≤ (r1 : Int) := by omega
  have b2 : decide (P.length ≤ r1) = false := by simp; omega
  have b3 : (0 : Int) ≤ (r1 : Int) := by omega
  have b4 : (r1 : Int) < (P.length : Int) := by omega
  have k0 := X4.out.cell 0
  have k1 := X4.out.cell 1
  simp only [List.getElem?_toArray, List.getElem?_cons_zero, List.getElem?_cons_succ] at k0 k1
  have HXX := Lib.hid (fun W (hb : Below w4.heap.size w4 W) => (X4.out.below hb))
  have HPP := Lib.hid (fun W (hb : Below w4.heap.size w4 W) => (⟨cell_later hb p0, cell_later hb p1⟩ : W.cell? ⟨ga, oa + r1 * 2, none⟩ = some (vu xk) ∧ W.cell? ⟨ga, oa + r1 * 2 + 1, none⟩ = some (sv xs)))
  have hS0 : (w4.cell? ⟨w.heap.size, 0, none⟩ = some (.int .u64 (xk : Int)) ∧ w4.cell? ⟨w.heap.size, 1, none⟩ = some (sv xs)) ∧ (w4.cell? ⟨ga, oa + r1 * 2, none⟩ = some (vu xk) ∧ w4.cell? ⟨ga, oa + r1 * 2 + 1, none⟩ = some (sv xs)) ∧ Below w4.heap.size w4 w4 := ⟨⟨k0, k1⟩, ⟨p0, p1⟩, Below.refl _ _⟩
  clear p0 p1 k0 k1
  go_wp2_with fail
  go_region_held3 (fun W => (W.cell? ⟨w.heap.size, 0, none⟩ = some (.int .u64 (xk : Int)) ∧ W.cell? ⟨w.heap.size, 1, none⟩ = some (sv xs)) ∧ (W.cell? ⟨ga, oa + r1 * 2, none⟩ = some (vu xk) ∧ W.cell? ⟨ga, oa + r1 * 2 + 1, none⟩ = some (sv xs)) ∧ Below w4.heap.size w4 W) (first | assumption | exact ⟨hS0.1, hS0.2.1, (Below.refl _ _).drew⟩) (first
    | (go_at_call 10; (with_reducible refine (HRP.out _ _ _ (HI1.out.later (Below.refl w4.heap.size w4).drew)).mono ?_); rintro e wp ⟨rfl, hbp⟩; have hBp := bt (Below.refl w4.heap.size w4).drew hbp; have hSp : ((wp.cell? ⟨w.heap.size, 0, none⟩ = some (.int .u64 (xk : Int)) ∧ wp.cell? ⟨w.heap.size, 1, none⟩ = some (sv xs)) ∧ (wp.cell? ⟨ga, oa + r1 * 2, none⟩ = some (vu xk) ∧ wp.cell? ⟨ga, oa + r1 * 2 + 1, none⟩ = some (sv xs)) ∧ Below w4.heap.size w4 wp) := ⟨⟨(HXX.out _ hBp).cell 0, (HXX.out _ hBp).cell 1⟩, HPP.out _ hBp, hBp⟩)
    | (go_at_call 14; (with_reducible refine (HAL.out _ (bt B4.out hBp)).mono ?_); rintro e wq ⟨rfl, hbq⟩; have hBq := bt hBp hbq; have hSq : ((wq.cell? ⟨w.heap.size, 0, none⟩ = some (.int .u64 (xk : Int)) ∧ wq.cell? ⟨w.heap.size, 1, none⟩ = some (sv xs)) ∧ (wq.cell? ⟨ga, oa + r1 * 2, none⟩ = some (vu xk) ∧ wq.cell? ⟨ga, oa + r1 * 2 + 1, none⟩ = some (sv xs)) ∧ Below w4.heap.size w4 wq) := ⟨⟨(HXX.out _ hBq).cell 0, (HXX.out _ hBq).cell 1⟩, HPP.out _ hBq, hBq⟩))
  have hb := hBq
  have B5 := Lib.hid (bt B4.out hb)
  have X5 := Lib.hid (X4.out.below hb)
  have Y5 := Lib.hid (Y4.out.below hb)
  replace HI1 := Lib.hid (HI1.out.later hb)
  replace HI2 := Lib.hid (HI2.out.later hb)
  clear hb B4 X4 Y4
  clear hBp hBq hSp hSq hbp hbq HXX HPP hS0 HRP HAL b1 b2 b3 b4 hr2' hr1
  have k0 := X5.out.cell 0
  have k1 := X5.out.cell 1
  simp only [List.getElem?_toArray, List.getElem?_cons_zero, List.getElem?_cons_succ] at k0 k1
  go_wp2_with fail
  refine (HFL.out _ B5.out).mono ?_
  rintro e w6 ⟨F4, m4, e4, rfl, hb⟩
  have B6 := Lib.hid (bt B5.out hb)
  have X6 := Lib.hid (X5.out.below hb)
  have Y6 := Lib.hid (Y5.out.below hb)
  replace HI1 := Lib.hid (HI1.out.later hb)
  replace HI2 := Lib.hid (HI2.out.later hb)
  clear hb B5 X5 Y5 k0 k1
  clear HFL
  have k0 := X6.out.cell 0
  have k1 := X6.out.cell 1
  simp only [List.getElem?_toArray, List.getElem?_cons_zero, List.getElem?_cons_succ] at k0 k1
  obtain ⟨g8, off8, rfl, c0, c1⟩ := HRD.out p2 w6 t1 B6.out
  have t9 : (L.getD p2 (0, [])).1 = xk := t2
  rw [t9] at c0
  clear t9 t2
  have s3 : (0 : Int) ≤ (p2 : Int) := by omega
  have s4 : (p2 : Int) < (n : Int) := by omega
  go_wp2_with fail
  go_quiet (fail)
  have hb := below_drewN (Below.refl w6.heap.size w6) nq
  generalize w6.drewN nq = w69 at hb ⊢
  have B7 := Lib.hid (bt B6.out hb)
  have X7 := Lib.hid (X6.out.below hb)
  have Y7 := Lib.hid (Y6.out.below hb)
  replace HI1 := Lib.hid (HI1.out.later hb)
  replace HI2 := Lib.hid (HI2.out.later hb)
  clear hb B6 X6 Y6 k0 k1 c0 c1
  clear HRD
  have l0 := Y7.out.cell 0
  have l1 := Y7.out.cell 1
  simp only [List.getElem?_toArray, List.getElem?_cons_zero, List.getElem?_cons_succ] at l0 l1
  go_wp2_with fail
  refine (HPY.out _ _ _ HI1.out hd1).mono ?_
  rintro e w8 ⟨C5, d5, rfl, hd5, hI5, hb⟩
  have B8 := Lib.hid (bt B7.out hb)
  have X8 := Lib.hid (X7.out.below hb)
  have Y8 := Lib.hid (Y7.out.below hb)
  clear hb B7 X7 Y7 l0 l1
  have HI5 := Lib.hid hI5
  clear hI5 HPY HI1
  have l0 := Y8.out.cell 0
  have l1 := Y8.out.cell 1
  simp only [List.getElem?_toArray, List.getElem?_cons_zero, List.getElem?_cons_succ] at l0 l1
  go_wp2_with fail
  refine (HLY.out _ B8.out).mono ?_
  rintro e w9 ⟨C6, d6, rfl, hd6, hI6, hb⟩
  have B9 := Lib.hid (bt B8.out hb)
  have X9 := Lib.hid (X8.out.below hb)
  have Y9 := Lib.hid (Y8.out.below hb)
  replace HI5 := Lib.hid (HI5.out.later hb)
  clear hb B8 X8 Y8 l0 l1
  have HI6 := Lib.hid hI6
  clear hI6 HLY
  go_wp2
  go_ret
  exact ⟨rfl, B9.out⟩

end Go.Proofs.YtegojdblaanclaaDoor
