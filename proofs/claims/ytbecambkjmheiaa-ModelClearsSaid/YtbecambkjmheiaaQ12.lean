/- Texts of this seat, one behind the other: Cover, Cut. -/
import Derived.Deep.RegionHeld3
import Derived.Test.YtbecambkjmheiaaQ11
/- Contracts of Cover and of the reference's Of, for every input. -/
namespace Go.Proofs.Ytbecambkjmheiaa
open Go.RowKit


set_option maxHeartbeats 1000000 in
theorem cover_bad (f n s e : Int) (w : World) (f0 : 0 ≤ f) (f1 : f ≤ 18446744073709551615) (n1 : n ≤ 18446744073709551615) (h : Bad f n e) (e1 : 1 ≤ e) :
    Calls Try.prog 51 #[.agg #[.int .u64 f, .int .u64 n], .int .u64 s] w fun e' w' => e' = .returned (.tuple #[.agg #[.int .u64 0, .int .u64 0], .int .i64 e]) ∧ Below w.heap.size w w' := by
  go_enter Try.func51, Try.ntmps51
  go_wp2_with fail
  refine (ends_bad f n e _ f0 f1 n1 h e1).mono ?_
  rintro e' w1 ⟨rfl, hb⟩
  obtain ⟨r0, s0⟩ := At.later (v := .int .u64 0) (b := w.heap.size + 1) (o := 0) ⟨by go_simp, by go_simp⟩ hb
  obtain ⟨r1, s1⟩ := At.later (v := .int .u64 0) (b := w.heap.size + 1) (o := 1) ⟨by go_simp, by go_simp⟩ hb
  have z1 : w.heap.size + 1 < w1.heap.size := by have := hb.size; simp at this; omega
  go_wp2
  refine bodyPost_ret (v := .tuple #[.agg #[.int .u64 0, .int .u64 0], .int .i64 e]) (by simp [results, Try.results51, go_sem, r0, r1, z1]) rfl ⟨rfl, ?_⟩
  exact ba (bs (bs (bt (ba (ba (Below.refl _ _) _) _) hb) (by omega) _) (by omega) _) _
set_option maxHeartbeats 1000000 in
theorem cover_zero (f n : Int) (w : World) (f0 : 0 ≤ f) (n1 : 1 ≤ n) (fn : f + n ≤ 18446744073709551616) :
    Calls Try.prog 51 #[.agg #[.int .u64 f, .int .u64 n], .int .u64 0] w fun e' w' => e' = .returned (.tuple #[.agg #[.int .u64 0, .int .u64 0], .int .i64 1]) ∧ Below w.heap.size w w' := by
  go_enter Try.func51, Try.ntmps51
  go_wp2_with fail
  refine (ends_ok f n _ f0 n1 fn).mono ?_
  rintro e' w1 ⟨rfl, hb⟩
  obtain ⟨r0, s0⟩ := At.later (v := .int .u64 0) (b := w.heap.size + 1) (o := 0) ⟨by go_simp, by go_simp⟩ hb
  obtain ⟨r1, s1⟩ := At.later (v := .int .u64 0) (b := w.heap.size + 1) (o := 1) ⟨by go_simp, by go_simp⟩ hb
  have z1 : w.heap.size + 1 < w1.heap.size := by have := hb.size; simp at this; omega
  go_wp2
  refine bodyPost_ret (v := .tuple #[.agg #[.int .u64 0, .int .u64 0], .int .i64 1]) (by simp [results, Try.results51, go_sem, r0, r1, z1]) rfl ⟨rfl, ?_⟩
  exact ba (bs (bs (bt (ba (ba (Below.refl _ _) _) _) hb) (by omega) _) (by omega) _) _
/-- The quotients of a span's ends. -/
def Quos (f n s p q : Int) : Prop := p = f / s ∧ q = (f + (n - 1)) / s
theorem quos_facts {f n s p q : Int} (h : Quos f n s p q) (f0 : 0 ≤ f) (n1 : 1 ≤ n) (n2 : n ≤ 18446744073709551615) (fn : f + n ≤ 18446744073709551616) (s1 : 1 ≤ s) :
    0 ≤ p ∧ p ≤ q ∧ q ≤ 18446744073709551615 ∧ (p = 0 → q ≠ 18446744073709551615) := by
  obtain ⟨rfl, rfl⟩ := h
  have h1 : 0 ≤ f / s := Int.ediv_nonneg f0 (by omega)
  have h2 : f / s ≤ (f + (n - 1)) / s := Int.ediv_le_ediv (by omega) (by omega)
  have h3 : (f + (n - 1)) / s ≤ f + (n - 1) := Int.ediv_le_self _ (by omega)
  refine ⟨h1, h2, by omega, fun hp hq => ?_⟩
  have h4 : s * ((f + (n - 1)) / s) ≤ f + (n - 1) := Int.mul_ediv_self_le (by omega)
  rw [hq] at h4
  have h5 : s = 1 := by omega
  subst h5
  rw [Int.ediv_one] at hp hq
  omega

theorem u64_in {x : Int} (h0 : 0 ≤ x) (h1 : x ≤ 18446744073709551615) : IntKind.u64.wrap x = x := by
  exact IntWalk.u64_in x ⟨h0, h1⟩
theorem quos_p {f n s p q : Int} (h : Quos f n s p q) (f0 : 0 ≤ f) (p0 : 0 ≤ p) (p1 : p ≤ 18446744073709551615) : IntKind.u64.wrap (f.tdiv s) = p := by
  rw [Int.tdiv_eq_ediv_of_nonneg f0, ← h.1]
  exact u64_in p0 p1
theorem quos_q {f n s p q : Int} (h : Quos f n s p q) (f0 : 0 ≤ f + (n - 1)) (p0 : 0 ≤ q) (p1 : q ≤ 18446744073709551615) : IntKind.u64.wrap ((f + (n - 1)).tdiv s) = q := by
  rw [Int.tdiv_eq_ediv_of_nonneg f0, ← h.2]
  exact u64_in p0 p1

set_option maxHeartbeats 1000000 in
theorem cover_ok (f n s p q : Int) (w : World) (f0 : 0 ≤ f) (n1 : 1 ≤ n) (n2 : n ≤ 18446744073709551615) (fn : f + n ≤ 18446744073709551616) (s1 : 1 ≤ s) (HQ : Hid (Quos f n s p q)) :
    Calls Try.prog 51 #[.agg #[.int .u64 f, .int .u64 n], .int .u64 s] w fun e' w' => e' = .returned (.tuple #[.agg #[.int .u64 p, .int .u64 (q - p + 1)], .int .i64 0]) ∧ Below w.heap.size w w' := by
  have hs0 : s ≠ 0 := by omega
  go_enter Try.func51, Try.ntmps51
  go_wp2_with fail
  refine (ends_ok f n _ f0 n1 fn).mono ?_
  rintro e' w1 ⟨rfl, hb⟩
  have R0 := At.later (v := .int .u64 0) (b := w.heap.size + 1) (o := 0) ⟨by go_simp, by go_simp⟩ hb
  have R1 := At.later (v := .int .u64 0) (b := w.heap.size + 1) (o := 1) ⟨by go_simp, by go_simp⟩ hb
  have z1 : w.heap.size + 1 < w1.heap.size := by have := hb.size; simp at this; omega
  have X0 := At.new w1 #[.int .u64 f, .int .u64 (f + (n - 1))] 98 (o := 0) (v := .int .u64 f) rfl
  have X1 := At.new w1 #[.int .u64 f, .int .u64 (f + (n - 1))] 98 (o := 1) (v := .int .u64 (f + (n - 1))) rfl
  obtain ⟨k1, k2, k3, k4⟩ := quos_facts HQ.out f0 n1 n2 fn s1
  have zne : w.heap.size + 1 ≠ w1.heap.size := by omega
  have HK : Hid (p = 0 → q ≠ 18446744073709551615) := k4
  clear k4
  have hp : IntKind.u64.wrap (f.tdiv s) = p := quos_p HQ.out f0 k1 (by omega)
  have hq : IntKind.u64.wrap ((f + (n - 1)).tdiv s) = q := quos_q HQ.out (by omega) (by omega) (by omega)
  go_wp2
  go_region_held3 (fun W => W.cell? ⟨w1.heap.size, 0, none⟩ = some (.int .u64 f) ∧ W.cell? ⟨w1.heap.size, 1, none⟩ = some (.int .u64 (f + (n - 1)))) (first | exact ⟨X0.1, X1.1⟩ | assumption | go_keep) (first | (go_at_call 65; refine (span_ok p q _ k1 k2 k3 HK.out).mono ?_; rintro e w2 ⟨rfl, hb2⟩; obtain ⟨r0, s0⟩ := ((R0.alloc _).drew).later hb2; obtain ⟨r1, s1⟩ := ((R1.alloc _).drew).later hb2; have hS : w2.cell? ⟨w1.heap.size, 0, none⟩ = some (.int .u64 f) ∧ w2.cell? ⟨w1.heap.size, 1, none⟩ = some (.int .u64 (f + (n - 1))) := ⟨(X0.drew.later hb2).1, (X1.drew.later hb2).1⟩))
  go_wp2
  refine bodyPost_ret (v := .tuple #[.agg #[.int .u64 p, .int .u64 (q - p + 1)], .int .i64 0]) (by simp [results, Try.results51, go_sem, r0, r1]) rfl ⟨rfl, ?_⟩
  exact bs (bs (bt (ba (bt (ba (ba (Below.refl _ _) _) _) hb) _).drew hb2) (by omega) _) (by omega) _
end Go.Proofs.Ytbecambkjmheiaa
/- Contracts of Cut, for every input. -/
namespace Go.Proofs.Ytbecambkjmheiaa
open Go.RowKit

set_option maxHeartbeats 1000000 in
theorem cut_meet (f n g m : Int) (w : World) (f0 : 0 ≤ f) (n1 : 1 ≤ n) (n2 : n ≤ 18446744073709551615) (fn : f + n ≤ 18446744073709551616) (g0 : 0 ≤ g) (m1 : 1 ≤ m) (gm : g + m ≤ 18446744073709551616)
    (hm : max f g ≤ min (f + (n - 1)) (g + (m - 1))) :
    Calls Try.prog 52 #[.agg #[.int .u64 f, .int .u64 n], .agg #[.int .u64 g, .int .u64 m]] w fun e w' => e = .returned (.tuple #[.agg #[.int .u64 (max f g), .int .u64 (min (f + (n - 1)) (g + (m - 1)) - max f g + 1)], .int .i64 0]) ∧ Below w.heap.size w w' := by
  go_enter Try.func52, Try.ntmps52
  go_wp2_with fail
  refine (both_ok f n g m _ f0 n1 fn g0 m1 gm).mono ?_
  rintro e w1 ⟨rfl, hb⟩
  have R0 := At.later (v := .int .u64 0) (b := w.heap.size + 1 + 1) (o := 0) ⟨by go_simp, by go_simp⟩ hb
  have R1 := At.later (v := .int .u64 0) (b := w.heap.size + 1 + 1) (o := 1) ⟨by go_simp, by go_simp⟩ hb
  have z2 : w.heap.size + 1 + 1 < w1.heap.size := by have := hb.size; simp at this; omega
  go_wp2_with fail
  refine (common_any _ _ _ _ _).mono ?_
  rintro e w2 ⟨rfl, hb2⟩
  have R2 := ((R0.alloc (.cells #[.int .u64 f, .int .u64 (f + (n - 1))] 98)).alloc (.cells #[.int .u64 g, .int .u64 (g + (m - 1))] 98)).later hb2
  have R3 := ((R1.alloc (.cells #[.int .u64 f, .int .u64 (f + (n - 1))] 98)).alloc (.cells #[.int .u64 g, .int .u64 (g + (m - 1))] 98)).later hb2
  have y2 : w.heap.size + 1 + 1 < w2.heap.size := by have := hb2.size; simp at this; omega
  go_wp2_with fail
  refine (none_no _ _ _ hm).mono ?_
  rintro e w3 ⟨rfl, hb3⟩
  have R4 := (R2.alloc (.cells #[.int .u64 (max f g), .int .u64 (min (f + (n - 1)) (g + (m - 1)))] 98)).later hb3
  have R5 := (R3.alloc (.cells #[.int .u64 (max f g), .int .u64 (min (f + (n - 1)) (g + (m - 1)))] 98)).later hb3
  obtain ⟨c0, _⟩ := (At.new w2 #[.int .u64 (max f g), .int .u64 (min (f + (n - 1)) (g + (m - 1)))] 98 (o := 0) (v := .int .u64 (max f g)) rfl).later hb3
  obtain ⟨c1, _⟩ := (At.new w2 #[.int .u64 (max f g), .int .u64 (min (f + (n - 1)) (g + (m - 1)))] 98 (o := 1) (v := .int .u64 (min (f + (n - 1)) (g + (m - 1)))) rfl).later hb3
  have x2 : w2.heap.size < w3.heap.size := by have := hb3.size; simp at this; omega
  go_wp2_with fail
  refine (span_ok _ _ _ (by omega) hm (by omega) (by omega)).mono ?_
  rintro e w4 ⟨rfl, hb4⟩
  obtain ⟨r0, s0⟩ := R4.later hb4
  obtain ⟨r1, s1⟩ := R5.later hb4
  have x4 := hb4.size
  go_wp2
  refine bodyPost_ret (v := .tuple #[.agg #[.int .u64 (max f g), .int .u64 (min (f + (n - 1)) (g + (m - 1)) - max f g + 1)], .int .i64 0]) (by simp [results, Try.results52, go_sem, r0, r1]) rfl ⟨rfl, ?_⟩
  exact bs (bs (bt (bt (ba (bt (ba (ba (bt (ba (ba (ba (Below.refl _ _) _) _) _) hb) _) _) hb2) _) hb3) hb4) (by omega) _) (by omega) _

set_option maxHeartbeats 1000000 in
theorem cut_none (f n g m : Int) (w : World) (f0 : 0 ≤ f) (n1 : 1 ≤ n) (fn : f + n ≤ 18446744073709551616) (g0 : 0 ≤ g) (m1 : 1 ≤ m) (gm : g + m ≤ 18446744073709551616)
    (hm : min (f + (n - 1)) (g + (m - 1)) < max f g) :
    Calls Try.prog 52 #[.agg #[.int .u64 f, .int .u64 n], .agg #[.int .u64 g, .int .u64 m]] w fun e w' => e = .returned (.tuple #[.agg #[.int .u64 0, .int .u64 0], .int .i64 3]) ∧ Below w.heap.size w w' := by
  go_enter Try.func52, Try.ntmps52
  go_wp2_with fail
  refine (both_ok f n g m _ f0 n1 fn g0 m1 gm).mono ?_
  rintro e w1 ⟨rfl, hb⟩
  have R0 := At.later (v := .int .u64 0) (b := w.heap.size + 1 + 1) (o := 0) ⟨by go_simp, by go_simp⟩ hb
  have R1 := At.later (v := .int .u64 0) (b := w.heap.size + 1 + 1) (o := 1) ⟨by go_simp, by go_simp⟩ hb
  have z2 : w.heap.size + 1 + 1 < w1.heap.size := by have := hb.size; simp at this; omega
  go_wp2_with fail
  refine (common_any _ _ _ _ _).mono ?_
  rintro e w2 ⟨rfl, hb2⟩
  have R2 := ((R0.alloc (.cells #[.int .u64 f, .int .u64 (f + (n - 1))] 98)).alloc (.cells #[.int .u64 g, .int .u64 (g + (m - 1))] 98)).later hb2
  have R3 := ((R1.alloc (.cells #[.int .u64 f, .int .u64 (f + (n - 1))] 98)).alloc (.cells #[.int .u64 g, .int .u64 (g + (m - 1))] 98)).later hb2
  have y2 : w.heap.size + 1 + 1 < w2.heap.size := by have := hb2.size; simp at this; omega
  go_wp2_with fail
  refine (none_yes _ _ _ hm).mono ?_
  rintro e w3 ⟨rfl, hb3⟩
  obtain ⟨r0, s0⟩ := (R2.alloc (.cells #[.int .u64 (max f g), .int .u64 (min (f + (n - 1)) (g + (m - 1)))] 98)).later hb3
  obtain ⟨r1, s1⟩ := (R3.alloc (.cells #[.int .u64 (max f g), .int .u64 (min (f + (n - 1)) (g + (m - 1)))] 98)).later hb3
  have x2 : w2.heap.size < w3.heap.size := by have := hb3.size; simp at this; omega
  go_wp2
  refine bodyPost_ret (v := .tuple #[.agg #[.int .u64 0, .int .u64 0], .int .i64 3]) (by simp [results, Try.results52, go_sem, r0, r1]) rfl ⟨rfl, ?_⟩
  exact bs (bs (bt (ba (bt (ba (ba (bt (ba (ba (ba (Below.refl _ _) _) _) _) hb) _) _) hb2) _) hb3) (by omega) _) (by omega) _

set_option maxHeartbeats 1000000 in
theorem cut_bad (f n g m e : Int) (w : World) (f0 : 0 ≤ f) (f1 : f ≤ 18446744073709551615) (n1 : n ≤ 18446744073709551615) (g0 : 0 ≤ g) (g1 : g ≤ 18446744073709551615) (m1 : m ≤ 18446744073709551615) (h : Bad2 f n g m e) (e1 : 1 ≤ e) :
    Calls Try.prog 52 #[.agg #[.int .u64 f, .int .u64 n], .agg #[.int .u64 g, .int .u64 m]] w fun e' w' => e' = .returned (.tuple #[.agg #[.int .u64 0, .int .u64 0], .int .i64 e]) ∧ Below w.heap.size w w' := by
  go_enter Try.func52, Try.ntmps52
  go_wp2_with fail
  refine (both_bad f n g m e _ f0 f1 n1 g0 g1 m1 h e1).mono ?_
  rintro e' w1 ⟨rfl, hb⟩
  obtain ⟨r0, s0⟩ := At.later (v := .int .u64 0) (b := w.heap.size + 1 + 1) (o := 0) ⟨by go_simp, by go_simp⟩ hb
  obtain ⟨r1, s1⟩ := At.later (v := .int .u64 0) (b := w.heap.size + 1 + 1) (o := 1) ⟨by go_simp, by go_simp⟩ hb
  have z2 : w.heap.size + 1 + 1 < w1.heap.size := by have := hb.size; simp at this; omega
  have z3 : w.heap.size + 1 + 1 < w1.heap.size + 1 := by omega
  go_wp2
  refine bodyPost_ret (v := .tuple #[.agg #[.int .u64 0, .int .u64 0], .int .i64 e]) (by simp [results, Try.results52, go_sem, r0, r1, z2, z3]) rfl ⟨rfl, ?_⟩
  exact ba (ba (bs (bs (bt (ba (ba (ba (Below.refl _ _) _) _) _) hb) (by omega) _) (by omega) _) _) _
end Go.Proofs.Ytbecambkjmheiaa
