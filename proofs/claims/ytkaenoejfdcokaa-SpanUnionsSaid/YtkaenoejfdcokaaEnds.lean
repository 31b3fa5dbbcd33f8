/- Contracts of endsOf, bothEnds, common, none and span, each for every input. -/
import Derived.Test.YtkaenoejfdcokaaLeaf
namespace Go.Proofs.Ytkaenoejfdcokaa
open Go.RowKit

set_option maxHeartbeats 400000 in
theorem ends_ok (f n : Int) (w : World) (f0 : 0 ≤ f) (n1 : 1 ≤ n) (fn : f + n ≤ 18446744073709551616) :
    Calls Try.prog 35 #[.agg #[.int .u64 f, .int .u64 n]] w fun e w' => e = .returned (.tuple #[.agg #[.int .u64 f, .int .u64 (f + (n - 1))], .int .i64 0]) ∧ Below w.heap.size w w' := by
  go_enter Try.func35, Try.ntmps35
  go_wp2_with (go_at_call 9; refine (last_ok f n _ f0 n1 fn).mono ?_; rintro e w1 ⟨rfl, hb⟩; obtain ⟨hc, hf⟩ := bcell hb; have hz : w.heap.size + 1 < w1.heap.size := by have := hb.size; simp at this; omega)
  refine bodyPost_ret (v := .tuple #[.agg #[.int .u64 f, .int .u64 (f + (n - 1))], .int .i64 0]) (by simp [results, Try.results35, go_sem, hc]) rfl ⟨rfl, ?_⟩
  exact bs (bs (bt (ba (ba (Below.refl _ _) _) _) hb) (by omega) _) (by omega) _
set_option maxHeartbeats 400000 in
theorem ends_bad (f n e : Int) (w : World) (f0 : 0 ≤ f) (f1 : f ≤ 18446744073709551615) (n1 : n ≤ 18446744073709551615) (h : Bad f n e) (e1 : 1 ≤ e) :
    Calls Try.prog 35 #[.agg #[.int .u64 f, .int .u64 n]] w fun e' w' => e' = .returned (.tuple #[.agg #[.int .u64 0, .int .u64 0], .int .i64 e]) ∧ Below w.heap.size w w' := by
  go_enter Try.func35, Try.ntmps35
  go_wp2_with (go_at_call 9; refine (last_bad f n e _ f0 f1 n1 h e1).mono ?_; rintro e w1 ⟨rfl, hb⟩; obtain ⟨hc, hf⟩ := bcell hb; have hz : w.heap.size + 1 < w1.heap.size := by have := hb.size; simp at this; omega)
  refine bodyPost_ret (v := .tuple #[.agg #[.int .u64 0, .int .u64 0], .int .i64 e]) (by simp [results, Try.results35, go_sem, hc]) rfl ⟨rfl, ?_⟩
  exact bs (bs (bt (ba (ba (Below.refl _ _) _) _) hb) (by omega) _) (by omega) _

set_option maxHeartbeats 400000 in
theorem common_any (a b c d : Int) (w : World) :
    Calls Try.prog 29 #[.agg #[.int .u64 a, .int .u64 b], .agg #[.int .u64 c, .int .u64 d]] w fun e w' => e = .returned (.agg #[.int .u64 (max a c), .int .u64 (min b d)]) ∧ Below w.heap.size w w' := by
  go_enter Try.func29, Try.ntmps29
  go_wp2
  all_goals
    refine bodyPost_ret (v := .agg #[.int .u64 (max a c), .int .u64 (min b d)]) (by simp [results, Try.results29, go_sem] <;> omega) rfl ⟨rfl, ?_⟩
    exact ba (ba (ba (Below.refl _ _) _) _) _

set_option maxHeartbeats 400000 in
theorem none_yes (a b : Int) (w : World) (h : b < a) :
    Calls Try.prog 30 #[.agg #[.int .u64 a, .int .u64 b]] w fun e w' => e = .returned (.bool true) ∧ Below w.heap.size w w' := by
  go_enter Try.func30, Try.ntmps30
  go_wp2
  go_ret
  exact ⟨rfl, ba (Below.refl _ _) _⟩
set_option maxHeartbeats 400000 in
theorem none_no (a b : Int) (w : World) (h : a ≤ b) :
    Calls Try.prog 30 #[.agg #[.int .u64 a, .int .u64 b]] w fun e w' => e = .returned (.bool false) ∧ Below w.heap.size w w' := by
  have h' : decide (b < a) = false := by simpa using h
  go_enter Try.func30, Try.ntmps30
  go_wp2
  go_ret
  exact ⟨rfl, ba (Below.refl _ _) _⟩

set_option maxHeartbeats 400000 in
theorem span_ok (a b : Int) (w : World) (h0 : 0 ≤ a) (h : a ≤ b) (hb : b ≤ 18446744073709551615) (hw : a = 0 → b ≠ 18446744073709551615) :
    Calls Try.prog 31 #[.agg #[.int .u64 a, .int .u64 b]] w fun e w' => e = .returned (.tuple #[.agg #[.int .u64 a, .int .u64 (b - a + 1)], .int .i64 0]) ∧ Below w.heap.size w w' := by
  by_cases ha : a = 0
  · have hb' := hw ha
    subst ha
    clear hw
    go_enter Try.func31, Try.ntmps31
    go_wp2
    refine bodyPost_ret (v := .tuple #[.agg #[.int .u64 0, .int .u64 (b - 0 + 1)], .int .i64 0]) (by simp [results, Try.results31, go_sem]) rfl ⟨rfl, ?_⟩
    exact ba (ba (Below.refl _ _) _) _
  · clear hw
    go_enter Try.func31, Try.ntmps31
    go_wp2
    refine bodyPost_ret (v := .tuple #[.agg #[.int .u64 a, .int .u64 (b - a + 1)], .int .i64 0]) (by simp [results, Try.results31, go_sem]) rfl ⟨rfl, ?_⟩
    exact ba (ba (Below.refl _ _) _) _
set_option maxHeartbeats 400000 in
theorem span_whole (w : World) :
    Calls Try.prog 31 #[.agg #[.int .u64 0, .int .u64 18446744073709551615]] w fun e w' => e = .returned (.tuple #[.agg #[.int .u64 0, .int .u64 0], .int .i64 2]) ∧ Below w.heap.size w w' := by
  go_enter Try.func31, Try.ntmps31
  go_wp2
  refine bodyPost_ret (v := .tuple #[.agg #[.int .u64 0, .int .u64 0], .int .i64 2]) (by simp [results, Try.results31, go_sem]) rfl ⟨rfl, ?_⟩
  exact ba (ba (Below.refl _ _) _) _

set_option maxHeartbeats 400000 in
theorem both_ok (f n g m : Int) (w : World) (f0 : 0 ≤ f) (n1 : 1 ≤ n) (fn : f + n ≤ 18446744073709551616) (g0 : 0 ≤ g) (m1 : 1 ≤ m) (gm : g + m ≤ 18446744073709551616) :
    Calls Try.prog 28 #[.agg #[.int .u64 f, .int .u64 n], .agg #[.int .u64 g, .int .u64 m]] w fun e w' => e = .returned (.tuple #[.agg #[.int .u64 f, .int .u64 (f + (n - 1))], .agg #[.int .u64 g, .int .u64 (g + (m - 1))], .int .i64 0]) ∧ Below w.heap.size w w' := by
  go_enter Try.func28, Try.ntmps28
  go_wp2_with fail
  refine (ends_ok f n _ f0 n1 fn).mono ?_
  rintro e w1 ⟨rfl, hb⟩
  obtain ⟨c0, _⟩ := At.later (v := .int .u64 g) (b := w.heap.size + 1) (o := 0) ⟨by go_simp, by go_simp⟩ hb
  obtain ⟨c1, _⟩ := At.later (v := .int .u64 m) (b := w.heap.size + 1) (o := 1) ⟨by go_simp, by go_simp⟩ hb
  have D0 := At.later (v := .int .u64 0) (b := w.heap.size + 1 + 1) (o := 0) ⟨by go_simp, by go_simp⟩ hb
  have D1 := At.later (v := .int .u64 0) (b := w.heap.size + 1 + 1) (o := 1) ⟨by go_simp, by go_simp⟩ hb
  have E0 := At.later (v := .int .u64 0) (b := w.heap.size + 1 + 1 + 1) (o := 0) ⟨by go_simp, by go_simp⟩ hb
  have E1 := At.later (v := .int .u64 0) (b := w.heap.size + 1 + 1 + 1) (o := 1) ⟨by go_simp, by go_simp⟩ hb
  have z3 : w.heap.size + 1 + 1 + 1 < w1.heap.size := by have := hb.size; simp at this; omega
  have z2 : w.heap.size + 1 + 1 < w1.heap.size := by omega
  have z1 : w.heap.size + 1 < w1.heap.size := by omega
  go_wp2_with fail
  refine (ends_ok g m _ g0 m1 gm).mono ?_
  rintro e w2 ⟨rfl, hb2⟩
  obtain ⟨d0, e0⟩ := (D0.alloc _).later hb2
  obtain ⟨d1, e1⟩ := (D1.alloc _).later hb2
  obtain ⟨d2, e2⟩ := (E0.alloc _).later hb2
  obtain ⟨d3, e3⟩ := (E1.alloc _).later hb2
  obtain ⟨k0, l0⟩ := (At.new w1 #[.int .u64 f, .int .u64 (f + (n - 1))] 55 (o := 0) rfl).later hb2
  obtain ⟨k1, l1⟩ := (At.new w1 #[.int .u64 f, .int .u64 (f + (n - 1))] 55 (o := 1) rfl).later hb2
  have y0 : w1.heap.size < w2.heap.size := by have := hb2.size; simp at this; omega
  have y1 : w.heap.size + 1 + 1 + 1 < w2.heap.size := by omega
  have y2 : w.heap.size + 1 + 1 < w2.heap.size := by omega
  go_wp2
  go_region
  go_wp2
  refine bodyPost_ret (v := .tuple #[.agg #[.int .u64 f, .int .u64 (f + (n - 1))], .agg #[.int .u64 g, .int .u64 (g + (m - 1))], .int .i64 0]) (by simp [results, Try.results28, go_sem, d0, d1, d2, d3, y1, y2]) rfl ⟨rfl, ?_⟩
  exact (ba (bs (bs (bs (bs (bt (ba (bt (ba (ba (ba (ba (Below.refl _ _) _) _) _) _) hb) _) hb2) (by omega) _) (by omega) _) (by omega) _) (by omega) _) _).drew

set_option maxHeartbeats 400000 in
theorem both_bad1 (f n g m e : Int) (w : World) (f0 : 0 ≤ f) (f1 : f ≤ 18446744073709551615) (n1 : n ≤ 18446744073709551615) (h : Bad f n e) (e1 : 1 ≤ e) :
    Calls Try.prog 28 #[.agg #[.int .u64 f, .int .u64 n], .agg #[.int .u64 g, .int .u64 m]] w fun e' w' => e' = .returned (.tuple #[.agg #[.int .u64 0, .int .u64 0], .agg #[.int .u64 0, .int .u64 0], .int .i64 e]) ∧ Below w.heap.size w w' := by
  go_enter Try.func28, Try.ntmps28
  go_wp2_with fail
  refine (ends_bad f n e _ f0 f1 n1 h e1).mono ?_
  rintro e' w1 ⟨rfl, hb⟩
  obtain ⟨d0, e0⟩ := At.later (v := .int .u64 0) (b := w.heap.size + 1 + 1) (o := 0) ⟨by go_simp, by go_simp⟩ hb
  obtain ⟨d1, e1⟩ := At.later (v := .int .u64 0) (b := w.heap.size + 1 + 1) (o := 1) ⟨by go_simp, by go_simp⟩ hb
  obtain ⟨d2, e2⟩ := At.later (v := .int .u64 0) (b := w.heap.size + 1 + 1 + 1) (o := 0) ⟨by go_simp, by go_simp⟩ hb
  obtain ⟨d3, e3⟩ := At.later (v := .int .u64 0) (b := w.heap.size + 1 + 1 + 1) (o := 1) ⟨by go_simp, by go_simp⟩ hb
  have z3 : w.heap.size + 1 + 1 + 1 < w1.heap.size := by have := hb.size; simp at this; omega
  have z2 : w.heap.size + 1 + 1 < w1.heap.size := by omega
  go_wp2
  refine bodyPost_ret (v := .tuple #[.agg #[.int .u64 0, .int .u64 0], .agg #[.int .u64 0, .int .u64 0], .int .i64 e]) (by simp [results, Try.results28, go_sem, d0, d1, d2, d3, z3, z2]) rfl ⟨rfl, ?_⟩
  exact ba (bs (bs (bs (bs (bt (ba (ba (ba (ba (Below.refl _ _) _) _) _) _) hb) (by omega) _) (by omega) _) (by omega) _) (by omega) _) _

set_option maxHeartbeats 400000 in
theorem both_bad2 (f n g m e : Int) (w : World) (f0 : 0 ≤ f) (n1 : 1 ≤ n) (fn : f + n ≤ 18446744073709551616) (g0 : 0 ≤ g) (g1 : g ≤ 18446744073709551615) (m1 : m ≤ 18446744073709551615) (h : Bad g m e) (e1 : 1 ≤ e) :
    Calls Try.prog 28 #[.agg #[.int .u64 f, .int .u64 n], .agg #[.int .u64 g, .int .u64 m]] w fun e' w' => e' = .returned (.tuple #[.agg #[.int .u64 0, .int .u64 0], .agg #[.int .u64 0, .int .u64 0], .int .i64 e]) ∧ Below w.heap.size w w' := by
  go_enter Try.func28, Try.ntmps28
  go_wp2_with fail
  refine (ends_ok f n _ f0 n1 fn).mono ?_
  rintro e' w1 ⟨rfl, hb⟩
  obtain ⟨c0, _⟩ := At.later (v := .int .u64 g) (b := w.heap.size + 1) (o := 0) ⟨by go_simp, by go_simp⟩ hb
  obtain ⟨c1, _⟩ := At.later (v := .int .u64 m) (b := w.heap.size + 1) (o := 1) ⟨by go_simp, by go_simp⟩ hb
  have D0 := At.later (v := .int .u64 0) (b := w.heap.size + 1 + 1) (o := 0) ⟨by go_simp, by go_simp⟩ hb
  have D1 := At.later (v := .int .u64 0) (b := w.heap.size + 1 + 1) (o := 1) ⟨by go_simp, by go_simp⟩ hb
  have E0 := At.later (v := .int .u64 0) (b := w.heap.size + 1 + 1 + 1) (o := 0) ⟨by go_simp, by go_simp⟩ hb
  have E1 := At.later (v := .int .u64 0) (b := w.heap.size + 1 + 1 + 1) (o := 1) ⟨by go_simp, by go_simp⟩ hb
  have z3 : w.heap.size + 1 + 1 + 1 < w1.heap.size := by have := hb.size; simp at this; omega
  have z2 : w.heap.size + 1 + 1 < w1.heap.size := by omega
  have z1 : w.heap.size + 1 < w1.heap.size := by omega
  go_wp2_with fail
  refine (ends_bad g m e _ g0 g1 m1 h e1).mono ?_
  rintro e' w2 ⟨rfl, hb2⟩
  obtain ⟨d0, e0⟩ := (D0.alloc _).later hb2
  obtain ⟨d1, e1⟩ := (D1.alloc _).later hb2
  obtain ⟨d2, e2⟩ := (E0.alloc _).later hb2
  obtain ⟨d3, e3⟩ := (E1.alloc _).later hb2
  have y0 : w1.heap.size < w2.heap.size := by have := hb2.size; simp at this; omega
  have y1 : w.heap.size + 1 + 1 + 1 < w2.heap.size := by omega
  have y2 : w.heap.size + 1 + 1 < w2.heap.size := by omega
  go_wp2
  refine bodyPost_ret (v := .tuple #[.agg #[.int .u64 0, .int .u64 0], .agg #[.int .u64 0, .int .u64 0], .int .i64 e]) (by simp [results, Try.results28, go_sem, d0, d1, d2, d3, y1, y2]) rfl ⟨rfl, ?_⟩
  exact ba (bs (bs (bs (bs (bt (ba (bt (ba (ba (ba (ba (Below.refl _ _) _) _) _) _) hb) _) hb2) (by omega) _) (by omega) _) (by omega) _) (by omega) _) _
/-- The first error of two spans. -/
def Bad2 (f n g m e : Int) : Prop := Bad f n e ∨ (1 ≤ n ∧ f + n ≤ 18446744073709551616 ∧ Bad g m e)
theorem both_bad (f n g m e : Int) (w : World) (f0 : 0 ≤ f) (f1 : f ≤ 18446744073709551615) (n1 : n ≤ 18446744073709551615) (g0 : 0 ≤ g) (g1 : g ≤ 18446744073709551615) (m1 : m ≤ 18446744073709551615) (h : Bad2 f n g m e) (e1 : 1 ≤ e) :
    Calls Try.prog 28 #[.agg #[.int .u64 f, .int .u64 n], .agg #[.int .u64 g, .int .u64 m]] w fun e' w' => e' = .returned (.tuple #[.agg #[.int .u64 0, .int .u64 0], .agg #[.int .u64 0, .int .u64 0], .int .i64 e]) ∧ Below w.heap.size w w' := by
  rcases h with h | ⟨h1, h2, h⟩
  · exact both_bad1 f n g m e w f0 f1 n1 h e1
  · exact both_bad2 f n g m e w f0 h1 h2 g0 g1 m1 h e1
end Go.Proofs.Ytkaenoejfdcokaa
