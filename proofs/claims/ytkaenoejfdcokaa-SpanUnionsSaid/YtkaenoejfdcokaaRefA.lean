/- Contracts of the reference's In, Meet and Cut, for every input that may be. -/
import Derived.Test.YtkaenoejfdcokaaCover
import Derived.Deep.AppendLies
import Derived.Lib.Hide
namespace Go.Proofs.Ytkaenoejfdcokaa
open Go.RowKit

set_option maxHeartbeats 1000000 in
theorem in_yes (x f n : Int) (w : World) (f0 : 0 ≤ f) (n1 : 1 ≤ n) (fn : f + n ≤ 18446744073709551616) (h1 : f ≤ x) (h2 : x ≤ f + (n - 1)) :
    Calls Try.prog 34 #[.int .u64 x, .agg #[.int .u64 f, .int .u64 n]] w fun e w' => e = .returned (.bool true) ∧ Below w.heap.size w w' := by
  go_enter Try.func34, Try.ntmps34
  go_wp2_with fail
  refine (rlast_ok f n _ f0 n1 fn).mono ?_
  rintro e w1 ⟨rfl, hb⟩
  go_wp2
  go_ret
  exact ⟨rfl, bt (ba (Below.refl _ _) _) hb⟩
set_option maxHeartbeats 1000000 in
theorem in_ahead (x f n : Int) (w : World) (h1 : x < f) :
    Calls Try.prog 34 #[.int .u64 x, .agg #[.int .u64 f, .int .u64 n]] w fun e w' => e = .returned (.bool false) ∧ Below w.heap.size w w' := by
  have hd : decide (f ≤ x) = false := by simp; omega
  go_enter Try.func34, Try.ntmps34
  go_wp2
  go_ret
  exact ⟨rfl, ba (Below.refl _ _) _⟩
set_option maxHeartbeats 1000000 in
theorem in_behind (x f n : Int) (w : World) (f0 : 0 ≤ f) (n1 : 1 ≤ n) (fn : f + n ≤ 18446744073709551616) (h1 : f ≤ x) (h2 : f + (n - 1) < x) :
    Calls Try.prog 34 #[.int .u64 x, .agg #[.int .u64 f, .int .u64 n]] w fun e w' => e = .returned (.bool false) ∧ Below w.heap.size w w' := by
  have hd : decide (x ≤ f + (n - 1)) = false := by simp; omega
  go_enter Try.func34, Try.ntmps34
  go_wp2_with fail
  refine (rlast_ok f n _ f0 n1 fn).mono ?_
  rintro e w1 ⟨rfl, hb⟩
  go_wp2
  go_ret
  exact ⟨rfl, bt (ba (Below.refl _ _) _) hb⟩
theorem in_no (x f n : Int) (w : World) (f0 : 0 ≤ f) (n1 : 1 ≤ n) (fn : f + n ≤ 18446744073709551616) (h : x < f ∨ f + (n - 1) < x) :
    Calls Try.prog 34 #[.int .u64 x, .agg #[.int .u64 f, .int .u64 n]] w fun e w' => e = .returned (.bool false) ∧ Below w.heap.size w w' := by
  by_cases h1 : x < f
  · exact in_ahead x f n w h1
  · exact in_behind x f n w f0 n1 fn (by omega) (by omega)

set_option maxHeartbeats 1000000 in
theorem meet_in (f n g m : Int) (w : World) (g0 : 0 ≤ g) (m1 : 1 ≤ m) (gm : g + m ≤ 18446744073709551616) (h1 : g ≤ f) (h2 : f ≤ g + (m - 1)) :
    Calls Try.prog 19 #[.agg #[.int .u64 f, .int .u64 n], .agg #[.int .u64 g, .int .u64 m]] w fun e w' => e = .returned (.bool true) ∧ Below w.heap.size w w' := by
  go_enter Try.func19, Try.ntmps19
  go_wp2_with fail
  refine (in_yes f g m _ g0 m1 gm h1 h2).mono ?_
  rintro e w1 ⟨rfl, hb⟩
  go_wp2
  go_ret
  exact ⟨rfl, bt (ba (ba (Below.refl _ _) _) _) hb⟩

set_option maxHeartbeats 1000000 in
theorem meet_out (f n g m : Int) (w : World) (f0 : 0 ≤ f) (n1 : 1 ≤ n) (fn : f + n ≤ 18446744073709551616) (h1 : f < g) (h2 : g ≤ f + (n - 1)) :
    Calls Try.prog 19 #[.agg #[.int .u64 f, .int .u64 n], .agg #[.int .u64 g, .int .u64 m]] w fun e w' => e = .returned (.bool true) ∧ Below w.heap.size w w' := by
  go_enter Try.func19, Try.ntmps19
  go_wp2_with fail
  refine (in_ahead f g m _ h1).mono ?_
  rintro e w1 ⟨rfl, hb⟩
  obtain ⟨a0, _⟩ := At.later (v := .int .u64 f) (b := w.heap.size) (o := 0) ⟨by go_simp, by go_simp⟩ hb
  obtain ⟨a1, _⟩ := At.later (v := .int .u64 n) (b := w.heap.size) (o := 1) ⟨by go_simp, by go_simp⟩ hb
  obtain ⟨c0, _⟩ := At.later (v := .int .u64 g) (b := w.heap.size + 1) (o := 0) ⟨by go_simp, by go_simp⟩ hb
  go_wp2_with fail
  refine (in_yes g f n _ f0 n1 fn (by omega) h2).mono ?_
  rintro e w2 ⟨rfl, hb2⟩
  go_wp2
  go_ret
  exact ⟨rfl, bt (bt (ba (ba (Below.refl _ _) _) _) hb) hb2⟩

set_option maxHeartbeats 1000000 in
theorem meet_non (f n g m : Int) (w : World) (f0 : 0 ≤ f) (n1 : 1 ≤ n) (fn : f + n ≤ 18446744073709551616) (g0 : 0 ≤ g) (m1 : 1 ≤ m) (gm : g + m ≤ 18446744073709551616) (h1 : f < g ∨ g + (m - 1) < f) (h2 : g < f ∨ f + (n - 1) < g) :
    Calls Try.prog 19 #[.agg #[.int .u64 f, .int .u64 n], .agg #[.int .u64 g, .int .u64 m]] w fun e w' => e = .returned (.bool false) ∧ Below w.heap.size w w' := by
  go_enter Try.func19, Try.ntmps19
  go_wp2_with fail
  refine (in_no f g m _ g0 m1 gm h1).mono ?_
  rintro e w1 ⟨rfl, hb⟩
  obtain ⟨a0, _⟩ := At.later (v := .int .u64 f) (b := w.heap.size) (o := 0) ⟨by go_simp, by go_simp⟩ hb
  obtain ⟨a1, _⟩ := At.later (v := .int .u64 n) (b := w.heap.size) (o := 1) ⟨by go_simp, by go_simp⟩ hb
  obtain ⟨c0, _⟩ := At.later (v := .int .u64 g) (b := w.heap.size + 1) (o := 0) ⟨by go_simp, by go_simp⟩ hb
  go_wp2_with fail
  refine (in_no g f n _ f0 n1 fn h2).mono ?_
  rintro e w2 ⟨rfl, hb2⟩
  go_wp2
  go_ret
  exact ⟨rfl, bt (bt (ba (ba (Below.refl _ _) _) _) hb) hb2⟩

theorem meet_yes (f n g m A B : Int) (w : World) (f0 : 0 ≤ f) (n1 : 1 ≤ n) (fn : f + n ≤ 18446744073709551616) (g0 : 0 ≤ g) (m1 : 1 ≤ m) (gm : g + m ≤ 18446744073709551616) (HA : Hid (A = max f g)) (HB : Hid (B = min (f + (n - 1)) (g + (m - 1)))) (hm : A ≤ B) :
    Calls Try.prog 19 #[.agg #[.int .u64 f, .int .u64 n], .agg #[.int .u64 g, .int .u64 m]] w fun e w' => e = .returned (.bool true) ∧ Below w.heap.size w w' := by
  have h1 := HA.out
  have h2 := HB.out
  by_cases h : g ≤ f
  · exact meet_in f n g m w g0 m1 gm h (by omega)
  · exact meet_out f n g m w f0 n1 fn (by omega) (by omega)
theorem meet_no (f n g m A B : Int) (w : World) (f0 : 0 ≤ f) (n1 : 1 ≤ n) (fn : f + n ≤ 18446744073709551616) (g0 : 0 ≤ g) (m1 : 1 ≤ m) (gm : g + m ≤ 18446744073709551616) (HA : Hid (A = max f g)) (HB : Hid (B = min (f + (n - 1)) (g + (m - 1)))) (hm : B < A) :
    Calls Try.prog 19 #[.agg #[.int .u64 f, .int .u64 n], .agg #[.int .u64 g, .int .u64 m]] w fun e w' => e = .returned (.bool false) ∧ Below w.heap.size w w' := by
  have h1 := HA.out
  have h2 := HB.out
  exact meet_non f n g m w f0 n1 fn g0 m1 gm (by omega) (by omega)

set_option maxHeartbeats 1000000 in
theorem rcut_gg (f n g m : Int) (w : World) (f0 : 0 ≤ f) (n1 : 1 ≤ n) (_ : n ≤ 18446744073709551615) (fn : f + n ≤ 18446744073709551616) (g0 : 0 ≤ g) (m1 : 1 ≤ m) (m2 : m ≤ 18446744073709551615) (gm : g + m ≤ 18446744073709551616) (c1 : f < g) (c2 : g + (m - 1) < f + (n - 1)) (c3 : g ≤ (g + (m - 1))) :
    Calls Try.prog 20 #[.agg #[.int .u64 f, .int .u64 n], .agg #[.int .u64 g, .int .u64 m]] w fun e w' => e = .returned (.agg #[.int .u64 g, .int .u64 ((g + (m - 1)) - g + 1)]) ∧ Below w.heap.size w w' := by
  go_enter Try.func20, Try.ntmps20
  go_wp2_with fail
  refine (rlast_ok f n _ f0 n1 fn).mono ?_
  rintro e w1 ⟨rfl, hb⟩
  have G0 := At.later (v := .int .u64 g) (b := w.heap.size + 1) (o := 0) ⟨by go_simp, by go_simp⟩ hb
  have G1 := At.later (v := .int .u64 m) (b := w.heap.size + 1) (o := 1) ⟨by go_simp, by go_simp⟩ hb
  have R0 := At.later (v := .int .u64 0) (b := w.heap.size + 1 + 1) (o := 0) ⟨by go_simp, by go_simp⟩ hb
  have R1 := At.later (v := .int .u64 0) (b := w.heap.size + 1 + 1) (o := 1) ⟨by go_simp, by go_simp⟩ hb
  have z := hb.size
  simp at z
  have u0 := G0.1
  have u1 := G1.1
  go_wp2_with fail
  refine (rlast_ok g m _ g0 m1 gm).mono ?_
  rintro e w2 ⟨rfl, hb2⟩
  have v0 := (G0.later hb2).1
  have v1 := (G1.later hb2).1
  go_wp2_with fail
  refine (rlast_ok g m _ g0 m1 gm).mono ?_
  rintro e w3 ⟨rfl, hb3⟩
  go_wp2_with fail
  refine (of_ok g (g + (m - 1)) _ (by omega) c3 (by omega) (by omega)).mono ?_
  rintro e w4 ⟨rfl, hb4⟩
  obtain ⟨r0, s0⟩ := ((R0.later hb2).later hb3).later hb4
  obtain ⟨r1, s1⟩ := ((R1.later hb2).later hb3).later hb4
  go_wp2
  refine bodyPost_ret (v := .agg #[.int .u64 g, .int .u64 ((g + (m - 1)) - g + 1)]) (by simp [results, Try.results20, go_sem, r0, r1]) rfl ⟨rfl, ?_⟩
  exact bs (bs (bt (bt (bt (bt (ba (ba (ba (Below.refl _ _) _) _) _) hb) hb2) hb3) hb4) (by omega) _) (by omega) _

set_option maxHeartbeats 1000000 in
theorem rcut_gf (f n g m : Int) (w : World) (f0 : 0 ≤ f) (n1 : 1 ≤ n) (_ : n ≤ 18446744073709551615) (fn : f + n ≤ 18446744073709551616) (g0 : 0 ≤ g) (m1 : 1 ≤ m) (m2 : m ≤ 18446744073709551615) (gm : g + m ≤ 18446744073709551616) (c1 : f < g) (c2 : f + (n - 1) ≤ g + (m - 1)) (c3 : g ≤ (f + (n - 1))) :
    Calls Try.prog 20 #[.agg #[.int .u64 f, .int .u64 n], .agg #[.int .u64 g, .int .u64 m]] w fun e w' => e = .returned (.agg #[.int .u64 g, .int .u64 ((f + (n - 1)) - g + 1)]) ∧ Below w.heap.size w w' := by
  go_enter Try.func20, Try.ntmps20
  go_wp2_with fail
  refine (rlast_ok f n _ f0 n1 fn).mono ?_
  rintro e w1 ⟨rfl, hb⟩
  have G0 := At.later (v := .int .u64 g) (b := w.heap.size + 1) (o := 0) ⟨by go_simp, by go_simp⟩ hb
  have G1 := At.later (v := .int .u64 m) (b := w.heap.size + 1) (o := 1) ⟨by go_simp, by go_simp⟩ hb
  have R0 := At.later (v := .int .u64 0) (b := w.heap.size + 1 + 1) (o := 0) ⟨by go_simp, by go_simp⟩ hb
  have R1 := At.later (v := .int .u64 0) (b := w.heap.size + 1 + 1) (o := 1) ⟨by go_simp, by go_simp⟩ hb
  have z := hb.size
  simp at z
  have u0 := G0.1
  have u1 := G1.1
  go_wp2_with fail
  refine (rlast_ok g m _ g0 m1 gm).mono ?_
  rintro e w2 ⟨rfl, hb2⟩
  go_wp2_with fail
  refine (of_ok g (f + (n - 1)) _ (by omega) c3 (by omega) (by omega)).mono ?_
  rintro e w4 ⟨rfl, hb4⟩
  obtain ⟨r0, s0⟩ := (R0.later hb2).later hb4
  obtain ⟨r1, s1⟩ := (R1.later hb2).later hb4
  go_wp2
  refine bodyPost_ret (v := .agg #[.int .u64 g, .int .u64 ((f + (n - 1)) - g + 1)]) (by simp [results, Try.results20, go_sem, r0, r1]) rfl ⟨rfl, ?_⟩
  exact bs (bs (bt (bt (bt (ba (ba (ba (Below.refl _ _) _) _) _) hb) hb2) hb4) (by omega) _) (by omega) _

set_option maxHeartbeats 1000000 in
theorem rcut_fg (f n g m : Int) (w : World) (f0 : 0 ≤ f) (n1 : 1 ≤ n) (_ : n ≤ 18446744073709551615) (fn : f + n ≤ 18446744073709551616) (g0 : 0 ≤ g) (m1 : 1 ≤ m) (m2 : m ≤ 18446744073709551615) (gm : g + m ≤ 18446744073709551616) (c1 : g ≤ f) (c2 : g + (m - 1) < f + (n - 1)) (c3 : f ≤ (g + (m - 1))) :
    Calls Try.prog 20 #[.agg #[.int .u64 f, .int .u64 n], .agg #[.int .u64 g, .int .u64 m]] w fun e w' => e = .returned (.agg #[.int .u64 f, .int .u64 ((g + (m - 1)) - f + 1)]) ∧ Below w.heap.size w w' := by
  go_enter Try.func20, Try.ntmps20
  go_wp2_with fail
  refine (rlast_ok f n _ f0 n1 fn).mono ?_
  rintro e w1 ⟨rfl, hb⟩
  have G0 := At.later (v := .int .u64 g) (b := w.heap.size + 1) (o := 0) ⟨by go_simp, by go_simp⟩ hb
  have G1 := At.later (v := .int .u64 m) (b := w.heap.size + 1) (o := 1) ⟨by go_simp, by go_simp⟩ hb
  have R0 := At.later (v := .int .u64 0) (b := w.heap.size + 1 + 1) (o := 0) ⟨by go_simp, by go_simp⟩ hb
  have R1 := At.later (v := .int .u64 0) (b := w.heap.size + 1 + 1) (o := 1) ⟨by go_simp, by go_simp⟩ hb
  have z := hb.size
  simp at z
  have u0 := G0.1
  have u1 := G1.1
  go_wp2_with fail
  refine (rlast_ok g m _ g0 m1 gm).mono ?_
  rintro e w2 ⟨rfl, hb2⟩
  have v0 := (G0.later hb2).1
  have v1 := (G1.later hb2).1
  go_wp2_with fail
  refine (rlast_ok g m _ g0 m1 gm).mono ?_
  rintro e w3 ⟨rfl, hb3⟩
  go_wp2_with fail
  refine (of_ok f (g + (m - 1)) _ (by omega) c3 (by omega) (by omega)).mono ?_
  rintro e w4 ⟨rfl, hb4⟩
  obtain ⟨r0, s0⟩ := ((R0.later hb2).later hb3).later hb4
  obtain ⟨r1, s1⟩ := ((R1.later hb2).later hb3).later hb4
  go_wp2
  refine bodyPost_ret (v := .agg #[.int .u64 f, .int .u64 ((g + (m - 1)) - f + 1)]) (by simp [results, Try.results20, go_sem, r0, r1]) rfl ⟨rfl, ?_⟩
  exact bs (bs (bt (bt (bt (bt (ba (ba (ba (Below.refl _ _) _) _) _) hb) hb2) hb3) hb4) (by omega) _) (by omega) _

set_option maxHeartbeats 1000000 in
theorem rcut_ff (f n g m : Int) (w : World) (f0 : 0 ≤ f) (n1 : 1 ≤ n) (n2 : n ≤ 18446744073709551615) (fn : f + n ≤ 18446744073709551616) (g0 : 0 ≤ g) (m1 : 1 ≤ m) (_ : m ≤ 18446744073709551615) (gm : g + m ≤ 18446744073709551616) (c1 : g ≤ f) (c2 : f + (n - 1) ≤ g + (m - 1)) (c3 : f ≤ (f + (n - 1))) :
    Calls Try.prog 20 #[.agg #[.int .u64 f, .int .u64 n], .agg #[.int .u64 g, .int .u64 m]] w fun e w' => e = .returned (.agg #[.int .u64 f, .int .u64 ((f + (n - 1)) - f + 1)]) ∧ Below w.heap.size w w' := by
  go_enter Try.func20, Try.ntmps20
  go_wp2_with fail
  refine (rlast_ok f n _ f0 n1 fn).mono ?_
  rintro e w1 ⟨rfl, hb⟩
  have G0 := At.later (v := .int .u64 g) (b := w.heap.size + 1) (o := 0) ⟨by go_simp, by go_simp⟩ hb
  have G1 := At.later (v := .int .u64 m) (b := w.heap.size + 1) (o := 1) ⟨by go_simp, by go_simp⟩ hb
  have R0 := At.later (v := .int .u64 0) (b := w.heap.size + 1 + 1) (o := 0) ⟨by go_simp, by go_simp⟩ hb
  have R1 := At.later (v := .int .u64 0) (b := w.heap.size + 1 + 1) (o := 1) ⟨by go_simp, by go_simp⟩ hb
  have z := hb.size
  simp at z
  have u0 := G0.1
  have u1 := G1.1
  go_wp2_with fail
  refine (rlast_ok g m _ g0 m1 gm).mono ?_
  rintro e w2 ⟨rfl, hb2⟩
  go_wp2_with fail
  refine (of_ok f (f + (n - 1)) _ (by omega) c3 (by omega) (by omega)).mono ?_
  rintro e w4 ⟨rfl, hb4⟩
  obtain ⟨r0, s0⟩ := (R0.later hb2).later hb4
  obtain ⟨r1, s1⟩ := (R1.later hb2).later hb4
  go_wp2
  refine bodyPost_ret (v := .agg #[.int .u64 f, .int .u64 ((f + (n - 1)) - f + 1)]) (by simp [results, Try.results20, go_sem, r0, r1]) rfl ⟨rfl, ?_⟩
  exact bs (bs (bt (bt (bt (ba (ba (ba (Below.refl _ _) _) _) _) hb) hb2) hb4) (by omega) _) (by omega) _

theorem rcut_any (f n g m A B : Int) (w : World) (f0 : 0 ≤ f) (n1 : 1 ≤ n) (n2 : n ≤ 18446744073709551615) (fn : f + n ≤ 18446744073709551616) (g0 : 0 ≤ g) (m1 : 1 ≤ m) (m2 : m ≤ 18446744073709551615) (gm : g + m ≤ 18446744073709551616) (HA : Hid (A = max f g)) (HB : Hid (B = min (f + (n - 1)) (g + (m - 1)))) (hm : A ≤ B) :
    Calls Try.prog 20 #[.agg #[.int .u64 f, .int .u64 n], .agg #[.int .u64 g, .int .u64 m]] w fun e w' => e = .returned (.agg #[.int .u64 A, .int .u64 (B - A + 1)]) ∧ Below w.heap.size w w' := by
  have h1 := HA.out
  have h2 := HB.out
  by_cases c1 : f < g
  · have eA : A = g := by omega
    rw [eA] at hm ⊢
    by_cases c2 : g + (m - 1) < f + (n - 1)
    · have eB : B = g + (m - 1) := by omega
      rw [eB] at hm ⊢
      exact rcut_gg f n g m w f0 n1 n2 fn g0 m1 m2 gm c1 c2 hm
    · have eB : B = f + (n - 1) := by omega
      rw [eB] at hm ⊢
      exact rcut_gf f n g m w f0 n1 n2 fn g0 m1 m2 gm c1 (by omega) hm
  · have eA : A = f := by omega
    rw [eA] at hm ⊢
    by_cases c2 : g + (m - 1) < f + (n - 1)
    · have eB : B = g + (m - 1) := by omega
      rw [eB] at hm ⊢
      exact rcut_fg f n g m w f0 n1 n2 fn g0 m1 m2 gm (by omega) c2 hm
    · have eB : B = f + (n - 1) := by omega
      rw [eB] at hm ⊢
      exact rcut_ff f n g m w f0 n1 n2 fn g0 m1 m2 gm (by omega) (by omega) hm

end Go.Proofs.Ytkaenoejfdcokaa
