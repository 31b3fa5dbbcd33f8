/- Contracts of Cover and of the reference's Of, for every input. -/
import Derived.Test.YtkaenoejfdcokaaSame
import Derived.Deep.RegionHeld3
namespace Go.Proofs.Ytkaenoejfdcokaa
open Go.RowKit

theorem At.drew {W : World} {b o : Nat} {v : Value} (h : At W b o v) : At W.drew b o v := h

set_option maxHeartbeats 1000000 in
theorem of_ok (a b : Int) (w : World) (h0 : 0 ≤ a) (h : a ≤ b) (hb : b ≤ 18446744073709551615) (hw : a = 0 → b ≠ 18446744073709551615) :
    Calls Try.prog 22 #[.int .u64 a, .int .u64 b] w fun e w' => e = .returned (.agg #[.int .u64 a, .int .u64 (b - a + 1)]) ∧ Below w.heap.size w w' := by
  have hx : b - a + 1 ≤ 18446744073709551615 := by
    by_cases ha : a = 0
    · have := hw ha; omega
    · omega
  clear hw
  go_enter Try.func22, Try.ntmps22
  go_wp2
  refine bodyPost_ret (v := .agg #[.int .u64 a, .int .u64 (b - a + 1)]) (by simp [results, Try.results22, go_sem]) rfl ⟨rfl, ?_⟩
  exact ba (Below.refl _ _) _

set_option maxHeartbeats 1000000 in
theorem cover_bad (f n s e : Int) (w : World) (f0 : 0 ≤ f) (f1 : f ≤ 18446744073709551615) (n1 : n ≤ 18446744073709551615) (h : Bad f n e) (e1 : 1 ≤ e) :
    Calls Try.prog 21 #[.agg #[.int .u64 f, .int .u64 n], .int .u64 s] w fun e' w' => e' = .returned (.tuple #[.agg #[.int .u64 0, .int .u64 0], .int .i64 e]) ∧ Below w.heap.size w w' := by
  go_enter Try.func21, Try.ntmps21
  go_wp2_with fail
  refine (ends_bad f n e _ f0 f1 n1 h e1).mono ?_
  rintro e' w1 ⟨rfl, hb⟩
  obtain ⟨r0, s0⟩ := At.later (v := .int .u64 0) (b := w.heap.size + 1) (o := 0) ⟨by go_simp, by go_simp⟩ hb
  obtain ⟨r1, s1⟩ := At.later (v := .int .u64 0) (b := w.heap.size + 1) (o := 1) ⟨by go_simp, by go_simp⟩ hb
  have z1 : w.heap.size + 1 < w1.heap.size := by have := hb.size; simp at this; omega
  go_wp2
  refine bodyPost_ret (v := .tuple #[.agg #[.int .u64 0, .int .u64 0], .int .i64 e]) (by simp [results, Try.results21, go_sem, r0, r1, z1]) rfl ⟨rfl, ?_⟩
  exact ba (bs (bs (bt (ba (ba (Below.refl _ _) _) _) hb) (by omega) _) (by omega) _) _
set_option maxHeartbeats 1000000 in
theorem cover_zero (f n : Int) (w : World) (f0 : 0 ≤ f) (n1 : 1 ≤ n) (fn : f + n ≤ 18446744073709551616) :
    Calls Try.prog 21 #[.agg #[.int .u64 f, .int .u64 n], .int .u64 0] w fun e' w' => e' = .returned (.tuple #[.agg #[.int .u64 0, .int .u64 0], .int .i64 1]) ∧ Below w.heap.size w w' := by
  go_enter Try.func21, Try.ntmps21
  go_wp2_with fail
  refine (ends_ok f n _ f0 n1 fn).mono ?_
  rintro e' w1 ⟨rfl, hb⟩
  obtain ⟨r0, s0⟩ := At.later (v := .int .u64 0) (b := w.heap.size + 1) (o := 0) ⟨by go_simp, by go_simp⟩ hb
  obtain ⟨r1, s1⟩ := At.later (v := .int .u64 0) (b := w.heap.size + 1) (o := 1) ⟨by go_simp, by go_simp⟩ hb
  have z1 : w.heap.size + 1 < w1.heap.size := by have := hb.size; simp at this; omega
  go_wp2
  refine bodyPost_ret (v := .tuple #[.agg #[.int .u64 0, .int .u64 0], .int .i64 1]) (by simp [results, Try.results21, go_sem, r0, r1, z1]) rfl ⟨rfl, ?_⟩
  exact ba (bs (bs (bt (ba (ba (Below.refl _ _) _) _) hb) (by omega) _) (by omega) _) _
/-- The quotients of a span's ends. -/
def Quos (f n s p q : Int) : Prop := p = f / s ∧ q = (f + (n - 1)) / s
theorem quos_facts {f n s p q : Int} (h : Quos f n s p q) (f0 : 0 ≤ f) (n1 : 1 ≤ n) (n2 : n ≤ 18446744073709551615) (fn : f + n ≤ 18446744073709551616) (s1 : 1 ≤ s) :
    0 ≤ p ∧ p ≤ q ∧ q ≤ 18446744073709551615 ∧ (p = 0 → q ≠ 18446744073709551615) := by
  obtain ⟨rfl, rfl⟩ := h
  have h1 : 0 ≤ f / s := Int.ediv_nonneg f0 (by omega)
  have h2 : f / s ≤ (f + (n - 1)) / s := Int.ediv_le_ediv (by omega) (by omega)
  have h3 : (f + (n - 1)) / s ≤ f + (n - 1) := Int.ediv_le_self _ (by omega)
  refine ⟨h1, h2, by omega, fun hp hq => ?_⟩
  have h4 : s * ((f + (n - 1)) / s) ≤ f + (n - 1) := Int.mul_ediv_self_le (by omega)
  rw [hq] at h4
  have h5 : s = 1 := by omega
  subst h5
  rw [Int.ediv_one] at hp hq
  omega

theorem u64_in {x : Int} (h0 : 0 ≤ x) (h1 : x ≤ 18446744073709551615) : IntKind.u64.wrap x = x := by
  exact IntWalk.u64_in x ⟨h0, h1⟩
theorem quos_p {f n s p q : Int} (h : Quos f n s p q) (f0 : 0 ≤ f) (p0 : 0 ≤ p) (p1 : p ≤ 18446744073709551615) : IntKind.u64.wrap (f.tdiv s) = p := by
  rw [Int.tdiv_eq_ediv_of_nonneg f0, ← h.1]
  exact u64_in p0 p1
theorem quos_q {f n s p q : Int} (h : Quos f n s p q) (f0 : 0 ≤ f + (n - 1)) (p0 : 0 ≤ q) (p1 : q ≤ 18446744073709551615) : IntKind.u64.wrap ((f + (n - 1)).tdiv s) = q := by
  rw [Int.tdiv_eq_ediv_of_nonneg f0, ← h.2]
  exact u64_in p0 p1

set_option maxHeartbeats 1000000 in
theorem cover_ok (f n s p q : Int) (w : World) (f0 : 0 ≤ f) (n1 : 1 ≤ n) (n2 : n ≤ 18446744073709551615) (fn : f + n ≤ 18446744073709551616) (s1 : 1 ≤ s) (HQ : Hid (Quos f n s p q)) :
    Calls Try.prog 21 #[.agg #[.int .u64 f, .int .u64 n], .int .u64 s] w fun e' w' => e' = .returned (.tuple #[.agg #[.int .u64 p, .int .u64 (q - p + 1)], .int .i64 0]) ∧ Below w.heap.size w w' := by
  have hs0 : s ≠ 0 := by omega
  go_enter Try.func21, Try.ntmps21
  go_wp2_with fail
  refine (ends_ok f n _ f0 n1 fn).mono ?_
  rintro e' w1 ⟨rfl, hb⟩
  have R0 := At.later (v := .int .u64 0) (b := w.heap.size + 1) (o := 0) ⟨by go_simp, by go_simp⟩ hb
  have R1 := At.later (v := .int .u64 0) (b := w.heap.size + 1) (o := 1) ⟨by go_simp, by go_simp⟩ hb
  have z1 : w.heap.size + 1 < w1.heap.size := by have := hb.size; simp at this; omega
  have X0 := At.new w1 #[.int .u64 f, .int .u64 (f + (n - 1))] 55 (o := 0) (v := .int .u64 f) rfl
  have X1 := At.new w1 #[.int .u64 f, .int .u64 (f + (n - 1))] 55 (o := 1) (v := .int .u64 (f + (n - 1))) rfl
  obtain ⟨k1, k2, k3, k4⟩ := quos_facts HQ.out f0 n1 n2 fn s1
  have zne : w.heap.size + 1 ≠ w1.heap.size := by omega
  have HK : Hid (p = 0 → q ≠ 18446744073709551615) := k4
  clear k4
  have hp : IntKind.u64.wrap (f.tdiv s) = p := quos_p HQ.out f0 k1 (by omega)
  have hq : IntKind.u64.wrap ((f + (n - 1)).tdiv s) = q := quos_q HQ.out (by omega) (by omega) (by omega)
  go_wp2
  go_region_held3 (fun W => W.cell? ⟨w1.heap.size, 0, none⟩ = some (.int .u64 f) ∧ W.cell? ⟨w1.heap.size, 1, none⟩ = some (.int .u64 (f + (n - 1)))) (first | exact ⟨X0.1, X1.1⟩ | assumption | go_keep) (first | (go_at_call 31; refine (span_ok p q _ k1 k2 k3 HK.out).mono ?_; rintro e w2 ⟨rfl, hb2⟩; obtain ⟨r0, s0⟩ := ((R0.alloc _).drew).later hb2; obtain ⟨r1, s1⟩ := ((R1.alloc _).drew).later hb2; have hS : w2.cell? ⟨w1.heap.size, 0, none⟩ = some (.int .u64 f) ∧ w2.cell? ⟨w1.heap.size, 1, none⟩ = some (.int .u64 (f + (n - 1))) := ⟨(X0.drew.later hb2).1, (X1.drew.later hb2).1⟩))
  go_wp2
  refine bodyPost_ret (v := .tuple #[.agg #[.int .u64 p, .int .u64 (q - p + 1)], .int .i64 0]) (by simp [results, Try.results21, go_sem, r0, r1]) rfl ⟨rfl, ?_⟩
  exact bs (bs (bt (ba (bt (ba (ba (Below.refl _ _) _) _) hb) _).drew hb2) (by omega) _) (by omega) _
end Go.Proofs.Ytkaenoejfdcokaa
