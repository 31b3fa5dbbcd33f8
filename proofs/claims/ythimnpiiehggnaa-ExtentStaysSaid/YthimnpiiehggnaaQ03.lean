/- Texts of this seat, one behind the other: Ends, Cut, Iter, Spans. -/
import Derived.RangeFuncBox
import Derived.RangeFuncNested
import Derived.RangeFuncBound
import Derived.RangeFuncCalls
import Derived.RangeFuncLeaves
import Derived.Shelf.Abstract
import Derived.Shelf.RegionOpen
import Derived.OwnWalkIn
import Derived.TacticsInMore
import Derived.LoopNIn
import Derived.LoopIn
import Derived.Maps.AppendAt
import Derived.WalkSmall
import Derived.Test.YthimnpiiehggnaaQ02
/- Contracts of endsOf, bothEnds, common, none and span, each for every input. -/
namespace Go.Proofs.Ythimnpiiehggnaa
open Go.RowKit

set_option maxHeartbeats 400000 in
theorem ends_ok (f n : Int) (w : World) (f0 : 0 ≤ f) (n1 : 1 ≤ n) (fn : f + n ≤ 18446744073709551616) :
    Calls Try.prog 61 #[.agg #[.int .u64 f, .int .u64 n]] w fun e w' => e = .returned (.tuple #[.agg #[.int .u64 f, .int .u64 (f + (n - 1))], .int .i64 0]) ∧ Below w.heap.size w w' := by
  go_enter Try.func61, Try.ntmps61
  go_wp2_with (go_at_call 39; refine (last_ok f n _ f0 n1 fn).mono ?_; rintro e w1 ⟨rfl, hb⟩; obtain ⟨hc, hf⟩ := bcell hb; have hz : w.heap.size + 1 < w1.heap.size := by have := hb.size; simp at this; omega)
  refine bodyPost_ret (v := .tuple #[.agg #[.int .u64 f, .int .u64 (f + (n - 1))], .int .i64 0]) (by simp [results, Try.results61, go_sem, hc]) rfl ⟨rfl, ?_⟩
  exact bs (bs (bt (ba (ba (Below.refl _ _) _) _) hb) (by omega) _) (by omega) _
set_option maxHeartbeats 400000 in
theorem ends_bad (f n e : Int) (w : World) (f0 : 0 ≤ f) (f1 : f ≤ 18446744073709551615) (n1 : n ≤ 18446744073709551615) (h : Bad f n e) (e1 : 1 ≤ e) :
    Calls Try.prog 61 #[.agg #[.int .u64 f, .int .u64 n]] w fun e' w' => e' = .returned (.tuple #[.agg #[.int .u64 0, .int .u64 0], .int .i64 e]) ∧ Below w.heap.size w w' := by
  go_enter Try.func61, Try.ntmps61
  go_wp2_with (go_at_call 39; refine (last_bad f n e _ f0 f1 n1 h e1).mono ?_; rintro e w1 ⟨rfl, hb⟩; obtain ⟨hc, hf⟩ := bcell hb; have hz : w.heap.size + 1 < w1.heap.size := by have := hb.size; simp at this; omega)
  refine bodyPost_ret (v := .tuple #[.agg #[.int .u64 0, .int .u64 0], .int .i64 e]) (by simp [results, Try.results61, go_sem, hc]) rfl ⟨rfl, ?_⟩
  exact bs (bs (bt (ba (ba (Below.refl _ _) _) _) hb) (by omega) _) (by omega) _

set_option maxHeartbeats 400000 in
theorem common_any (a b c d : Int) (w : World) :
    Calls Try.prog 52 #[.agg #[.int .u64 a, .int .u64 b], .agg #[.int .u64 c, .int .u64 d]] w fun e w' => e = .returned (.agg #[.int .u64 (max a c), .int .u64 (min b d)]) ∧ Below w.heap.size w w' := by
  go_enter Try.func52, Try.ntmps52
  go_wp2
  all_goals
    refine bodyPost_ret (v := .agg #[.int .u64 (max a c), .int .u64 (min b d)]) (by simp [results, Try.results52, go_sem] <;> omega) rfl ⟨rfl, ?_⟩
    exact ba (ba (ba (Below.refl _ _) _) _) _

set_option maxHeartbeats 400000 in
theorem none_yes (a b : Int) (w : World) (h : b < a) :
    Calls Try.prog 53 #[.agg #[.int .u64 a, .int .u64 b]] w fun e w' => e = .returned (.bool true) ∧ Below w.heap.size w w' := by
  go_enter Try.func53, Try.ntmps53
  go_wp2
  go_ret
  exact ⟨rfl, ba (Below.refl _ _) _⟩
set_option maxHeartbeats 400000 in
theorem none_no (a b : Int) (w : World) (h : a ≤ b) :
    Calls Try.prog 53 #[.agg #[.int .u64 a, .int .u64 b]] w fun e w' => e = .returned (.bool false) ∧ Below w.heap.size w w' := by
  have h' : decide (b < a) = false := by simpa using h
  go_enter Try.func53, Try.ntmps53
  go_wp2
  go_ret
  exact ⟨rfl, ba (Below.refl _ _) _⟩

set_option maxHeartbeats 400000 in
theorem span_ok (a b : Int) (w : World) (h0 : 0 ≤ a) (h : a ≤ b) (hb : b ≤ 18446744073709551615) (hw : a = 0 → b ≠ 18446744073709551615) :
    Calls Try.prog 54 #[.agg #[.int .u64 a, .int .u64 b]] w fun e w' => e = .returned (.tuple #[.agg #[.int .u64 a, .int .u64 (b - a + 1)], .int .i64 0]) ∧ Below w.heap.size w w' := by
  by_cases ha : a = 0
  · have hb' := hw ha
    subst ha
    clear hw
    go_enter Try.func54, Try.ntmps54
    go_wp2
    refine bodyPost_ret (v := .tuple #[.agg #[.int .u64 0, .int .u64 (b - 0 + 1)], .int .i64 0]) (by simp [results, Try.results54, go_sem]) rfl ⟨rfl, ?_⟩
    exact ba (ba (Below.refl _ _) _) _
  · clear hw
    go_enter Try.func54, Try.ntmps54
    go_wp2
    refine bodyPost_ret (v := .tuple #[.agg #[.int .u64 a, .int .u64 (b - a + 1)], .int .i64 0]) (by simp [results, Try.results54, go_sem]) rfl ⟨rfl, ?_⟩
    exact ba (ba (Below.refl _ _) _) _
set_option maxHeartbeats 400000 in
theorem span_whole (w : World) :
    Calls Try.prog 54 #[.agg #[.int .u64 0, .int .u64 18446744073709551615]] w fun e w' => e = .returned (.tuple #[.agg #[.int .u64 0, .int .u64 0], .int .i64 2]) ∧ Below w.heap.size w w' := by
  go_enter Try.func54, Try.ntmps54
  go_wp2
  refine bodyPost_ret (v := .tuple #[.agg #[.int .u64 0, .int .u64 0], .int .i64 2]) (by simp [results, Try.results54, go_sem]) rfl ⟨rfl, ?_⟩
  exact ba (ba (Below.refl _ _) _) _

set_option maxHeartbeats 400000 in
theorem both_ok (f n g m : Int) (w : World) (f0 : 0 ≤ f) (n1 : 1 ≤ n) (fn : f + n ≤ 18446744073709551616) (g0 : 0 ≤ g) (m1 : 1 ≤ m) (gm : g + m ≤ 18446744073709551616) :
    Calls Try.prog 51 #[.agg #[.int .u64 f, .int .u64 n], .agg #[.int .u64 g, .int .u64 m]] w fun e w' => e = .returned (.tuple #[.agg #[.int .u64 f, .int .u64 (f + (n - 1))], .agg #[.int .u64 g, .int .u64 (g + (m - 1))], .int .i64 0]) ∧ Below w.heap.size w w' := by
  go_enter Try.func51, Try.ntmps51
  go_wp2_with fail
  refine (ends_ok f n _ f0 n1 fn).mono ?_
  rintro e w1 ⟨rfl, hb⟩
  obtain ⟨c0, _⟩ := At.later (v := .int .u64 g) (b := w.heap.size + 1) (o := 0) ⟨by go_simp, by go_simp⟩ hb
  obtain ⟨c1, _⟩ := At.later (v := .int .u64 m) (b := w.heap.size + 1) (o := 1) ⟨by go_simp, by go_simp⟩ hb
  have D0 := At.later (v := .int .u64 0) (b := w.heap.size + 1 + 1) (o := 0) ⟨by go_simp, by go_simp⟩ hb
  have D1 := At.later (v := .int .u64 0) (b := w.heap.size + 1 + 1) (o := 1) ⟨by go_simp, by go_simp⟩ hb
  have E0 := At.later (v := .int .u64 0) (b := w.heap.size + 1 + 1 + 1) (o := 0) ⟨by go_simp, by go_simp⟩ hb
  have E1 := At.later (v := .int .u64 0) (b := w.heap.size + 1 + 1 + 1) (o := 1) ⟨by go_simp, by go_simp⟩ hb
  have z3 : w.heap.size + 1 + 1 + 1 < w1.heap.size := by have := hb.size; simp at this; omega
  have z2 : w.heap.size + 1 + 1 < w1.heap.size := by omega
  have z1 : w.heap.size + 1 < w1.heap.size := by omega
  go_wp2_with fail
  refine (ends_ok g m _ g0 m1 gm).mono ?_
  rintro e w2 ⟨rfl, hb2⟩
  obtain ⟨d0, e0⟩ := (D0.alloc _).later hb2
  obtain ⟨d1, e1⟩ := (D1.alloc _).later hb2
  obtain ⟨d2, e2⟩ := (E0.alloc _).later hb2
  obtain ⟨d3, e3⟩ := (E1.alloc _).later hb2
  obtain ⟨k0, l0⟩ := (At.new w1 #[.int .u64 f, .int .u64 (f + (n - 1))] 77 (o := 0) rfl).later hb2
  obtain ⟨k1, l1⟩ := (At.new w1 #[.int .u64 f, .int .u64 (f + (n - 1))] 77 (o := 1) rfl).later hb2
  have y0 : w1.heap.size < w2.heap.size := by have := hb2.size; simp at this; omega
  have y1 : w.heap.size + 1 + 1 + 1 < w2.heap.size := by omega
  have y2 : w.heap.size + 1 + 1 < w2.heap.size := by omega
  go_wp2
  go_region
  go_wp2
  refine bodyPost_ret (v := .tuple #[.agg #[.int .u64 f, .int .u64 (f + (n - 1))], .agg #[.int .u64 g, .int .u64 (g + (m - 1))], .int .i64 0]) (by simp [results, Try.results51, go_sem, d0, d1, d2, d3, y1, y2]) rfl ⟨rfl, ?_⟩
  exact (ba (bs (bs (bs (bs (bt (ba (bt (ba (ba (ba (ba (Below.refl _ _) _) _) _) _) hb) _) hb2) (by omega) _) (by omega) _) (by omega) _) (by omega) _) _).drew

set_option maxHeartbeats 400000 in
theorem both_bad1 (f n g m e : Int) (w : World) (f0 : 0 ≤ f) (f1 : f ≤ 18446744073709551615) (n1 : n ≤ 18446744073709551615) (h : Bad f n e) (e1 : 1 ≤ e) :
    Calls Try.prog 51 #[.agg #[.int .u64 f, .int .u64 n], .agg #[.int .u64 g, .int .u64 m]] w fun e' w' => e' = .returned (.tuple #[.agg #[.int .u64 0, .int .u64 0], .agg #[.int .u64 0, .int .u64 0], .int .i64 e]) ∧ Below w.heap.size w w' := by
  go_enter Try.func51, Try.ntmps51
  go_wp2_with fail
  refine (ends_bad f n e _ f0 f1 n1 h e1).mono ?_
  rintro e' w1 ⟨rfl, hb⟩
  obtain ⟨d0, e0⟩ := At.later (v := .int .u64 0) (b := w.heap.size + 1 + 1) (o := 0) ⟨by go_simp, by go_simp⟩ hb
  obtain ⟨d1, e1⟩ := At.later (v := .int .u64 0) (b := w.heap.size + 1 + 1) (o := 1) ⟨by go_simp, by go_simp⟩ hb
  obtain ⟨d2, e2⟩ := At.later (v := .int .u64 0) (b := w.heap.size + 1 + 1 + 1) (o := 0) ⟨by go_simp, by go_simp⟩ hb
  obtain ⟨d3, e3⟩ := At.later (v := .int .u64 0) (b := w.heap.size + 1 + 1 + 1) (o := 1) ⟨by go_simp, by go_simp⟩ hb
  have z3 : w.heap.size + 1 + 1 + 1 < w1.heap.size := by have := hb.size; simp at this; omega
  have z2 : w.heap.size + 1 + 1 < w1.heap.size := by omega
  go_wp2
  refine bodyPost_ret (v := .tuple #[.agg #[.int .u64 0, .int .u64 0], .agg #[.int .u64 0, .int .u64 0], .int .i64 e]) (by simp [results, Try.results51, go_sem, d0, d1, d2, d3, z3, z2]) rfl ⟨rfl, ?_⟩
  exact ba (bs (bs (bs (bs (bt (ba (ba (ba (ba (Below.refl _ _) _) _) _) _) hb) (by omega) _) (by omega) _) (by omega) _) (by omega) _) _

set_option maxHeartbeats 400000 in
theorem both_bad2 (f n g m e : Int) (w : World) (f0 : 0 ≤ f) (n1 : 1 ≤ n) (fn : f + n ≤ 18446744073709551616) (g0 : 0 ≤ g) (g1 : g ≤ 18446744073709551615) (m1 : m ≤ 18446744073709551615) (h : Bad g m e) (e1 : 1 ≤ e) :
    Calls Try.prog 51 #[.agg #[.int .u64 f, .int .u64 n], .agg #[.int .u64 g, .int .u64 m]] w fun e' w' => e' = .returned (.tuple #[.agg #[.int .u64 0, .int .u64 0], .agg #[.int .u64 0, .int .u64 0], .int .i64 e]) ∧ Below w.heap.size w w' := by
  go_enter Try.func51, Try.ntmps51
  go_wp2_with fail
  refine (ends_ok f n _ f0 n1 fn).mono ?_
  rintro e' w1 ⟨rfl, hb⟩
  obtain ⟨c0, _⟩ := At.later (v := .int .u64 g) (b := w.heap.size + 1) (o := 0) ⟨by go_simp, by go_simp⟩ hb
  obtain ⟨c1, _⟩ := At.later (v := .int .u64 m) (b := w.heap.size + 1) (o := 1) ⟨by go_simp, by go_simp⟩ hb
  have D0 := At.later (v := .int .u64 0) (b := w.heap.size + 1 + 1) (o := 0) ⟨by go_simp, by go_simp⟩ hb
  have D1 := At.later (v := .int .u64 0) (b := w.heap.size + 1 + 1) (o := 1) ⟨by go_simp, by go_simp⟩ hb
  have E0 := At.later (v := .int .u64 0) (b := w.heap.size + 1 + 1 + 1) (o := 0) ⟨by go_simp, by go_simp⟩ hb
  have E1 := At.later (v := .int .u64 0) (b := w.heap.size + 1 + 1 + 1) (o := 1) ⟨by go_simp, by go_simp⟩ hb
  have z3 : w.heap.size + 1 + 1 + 1 < w1.heap.size := by have := hb.size; simp at this; omega
  have z2 : w.heap.size + 1 + 1 < w1.heap.size := by omega
  have z1 : w.heap.size + 1 < w1.heap.size := by omega
  go_wp2_with fail
  refine (ends_bad g m e _ g0 g1 m1 h e1).mono ?_
  rintro e' w2 ⟨rfl, hb2⟩
  obtain ⟨d0, e0⟩ := (D0.alloc _).later hb2
  obtain ⟨d1, e1⟩ := (D1.alloc _).later hb2
  obtain ⟨d2, e2⟩ := (E0.alloc _).later hb2
  obtain ⟨d3, e3⟩ := (E1.alloc _).later hb2
  have y0 : w1.heap.size < w2.heap.size := by have := hb2.size; simp at this; omega
  have y1 : w.heap.size + 1 + 1 + 1 < w2.heap.size := by omega
  have y2 : w.heap.size + 1 + 1 < w2.heap.size := by omega
  go_wp2
  refine bodyPost_ret (v := .tuple #[.agg #[.int .u64 0, .int .u64 0], .agg #[.int .u64 0, .int .u64 0], .int .i64 e]) (by simp [results, Try.results51, go_sem, d0, d1, d2, d3, y1, y2]) rfl ⟨rfl, ?_⟩
  exact ba (bs (bs (bs (bs (bt (ba (bt (ba (ba (ba (ba (Below.refl _ _) _) _) _) _) hb) _) hb2) (by omega) _) (by omega) _) (by omega) _) (by omega) _) _
/-- The first error of two spans. -/
def Bad2 (f n g m e : Int) : Prop := Bad f n e ∨ (1 ≤ n ∧ f + n ≤ 18446744073709551616 ∧ Bad g m e)
theorem both_bad (f n g m e : Int) (w : World) (f0 : 0 ≤ f) (f1 : f ≤ 18446744073709551615) (n1 : n ≤ 18446744073709551615) (g0 : 0 ≤ g) (g1 : g ≤ 18446744073709551615) (m1 : m ≤ 18446744073709551615) (h : Bad2 f n g m e) (e1 : 1 ≤ e) :
    Calls Try.prog 51 #[.agg #[.int .u64 f, .int .u64 n], .agg #[.int .u64 g, .int .u64 m]] w fun e' w' => e' = .returned (.tuple #[.agg #[.int .u64 0, .int .u64 0], .agg #[.int .u64 0, .int .u64 0], .int .i64 e]) ∧ Below w.heap.size w w' := by
  rcases h with h | ⟨h1, h2, h⟩
  · exact both_bad1 f n g m e w f0 f1 n1 h e1
  · exact both_bad2 f n g m e w f0 h1 h2 g0 g1 m1 h e1
end Go.Proofs.Ythimnpiiehggnaa
/- Contracts of Cut, for every input. -/
namespace Go.Proofs.Ythimnpiiehggnaa
open Go.RowKit

set_option maxHeartbeats 1000000 in
theorem cut_meet (f n g m : Int) (w : World) (f0 : 0 ≤ f) (n1 : 1 ≤ n) (n2 : n ≤ 18446744073709551615) (fn : f + n ≤ 18446744073709551616) (g0 : 0 ≤ g) (m1 : 1 ≤ m) (gm : g + m ≤ 18446744073709551616)
    (hm : max f g ≤ min (f + (n - 1)) (g + (m - 1))) :
    Calls Try.prog 36 #[.agg #[.int .u64 f, .int .u64 n], .agg #[.int .u64 g, .int .u64 m]] w fun e w' => e = .returned (.tuple #[.agg #[.int .u64 (max f g), .int .u64 (min (f + (n - 1)) (g + (m - 1)) - max f g + 1)], .int .i64 0]) ∧ Below w.heap.size w w' := by
  go_enter Try.func36, Try.ntmps36
  go_wp2_with fail
  refine (both_ok f n g m _ f0 n1 fn g0 m1 gm).mono ?_
  rintro e w1 ⟨rfl, hb⟩
  have R0 := At.later (v := .int .u64 0) (b := w.heap.size + 1 + 1) (o := 0) ⟨by go_simp, by go_simp⟩ hb
  have R1 := At.later (v := .int .u64 0) (b := w.heap.size + 1 + 1) (o := 1) ⟨by go_simp, by go_simp⟩ hb
  have z2 : w.heap.size + 1 + 1 < w1.heap.size := by have := hb.size; simp at this; omega
  go_wp2_with fail
  refine (common_any _ _ _ _ _).mono ?_
  rintro e w2 ⟨rfl, hb2⟩
  have R2 := ((R0.alloc (.cells #[.int .u64 f, .int .u64 (f + (n - 1))] 77)).alloc (.cells #[.int .u64 g, .int .u64 (g + (m - 1))] 77)).later hb2
  have R3 := ((R1.alloc (.cells #[.int .u64 f, .int .u64 (f + (n - 1))] 77)).alloc (.cells #[.int .u64 g, .int .u64 (g + (m - 1))] 77)).later hb2
  have y2 : w.heap.size + 1 + 1 < w2.heap.size := by have := hb2.size; simp at this; omega
  go_wp2_with fail
  refine (none_no _ _ _ hm).mono ?_
  rintro e w3 ⟨rfl, hb3⟩
  have R4 := (R2.alloc (.cells #[.int .u64 (max f g), .int .u64 (min (f + (n - 1)) (g + (m - 1)))] 77)).later hb3
  have R5 := (R3.alloc (.cells #[.int .u64 (max f g), .int .u64 (min (f + (n - 1)) (g + (m - 1)))] 77)).later hb3
  obtain ⟨c0, _⟩ := (At.new w2 #[.int .u64 (max f g), .int .u64 (min (f + (n - 1)) (g + (m - 1)))] 77 (o := 0) (v := .int .u64 (max f g)) rfl).later hb3
  obtain ⟨c1, _⟩ := (At.new w2 #[.int .u64 (max f g), .int .u64 (min (f + (n - 1)) (g + (m - 1)))] 77 (o := 1) (v := .int .u64 (min (f + (n - 1)) (g + (m - 1)))) rfl).later hb3
  have x2 : w2.heap.size < w3.heap.size := by have := hb3.size; simp at this; omega
  go_wp2_with fail
  refine (span_ok _ _ _ (by omega) hm (by omega) (by omega)).mono ?_
  rintro e w4 ⟨rfl, hb4⟩
  obtain ⟨r0, s0⟩ := R4.later hb4
  obtain ⟨r1, s1⟩ := R5.later hb4
  have x4 := hb4.size
  go_wp2
  refine bodyPost_ret (v := .tuple #[.agg #[.int .u64 (max f g), .int .u64 (min (f + (n - 1)) (g + (m - 1)) - max f g + 1)], .int .i64 0]) (by simp [results, Try.results36, go_sem, r0, r1]) rfl ⟨rfl, ?_⟩
  exact bs (bs (bt (bt (ba (bt (ba (ba (bt (ba (ba (ba (Below.refl _ _) _) _) _) hb) _) _) hb2) _) hb3) hb4) (by omega) _) (by omega) _

set_option maxHeartbeats 1000000 in
theorem cut_none (f n g m : Int) (w : World) (f0 : 0 ≤ f) (n1 : 1 ≤ n) (fn : f + n ≤ 18446744073709551616) (g0 : 0 ≤ g) (m1 : 1 ≤ m) (gm : g + m ≤ 18446744073709551616)
    (hm : min (f + (n - 1)) (g + (m - 1)) < max f g) :
    Calls Try.prog 36 #[.agg #[.int .u64 f, .int .u64 n], .agg #[.int .u64 g, .int .u64 m]] w fun e w' => e = .returned (.tuple #[.agg #[.int .u64 0, .int .u64 0], .int .i64 3]) ∧ Below w.heap.size w w' := by
  go_enter Try.func36, Try.ntmps36
  go_wp2_with fail
  refine (both_ok f n g m _ f0 n1 fn g0 m1 gm).mono ?_
  rintro e w1 ⟨rfl, hb⟩
  have R0 := At.later (v := .int .u64 0) (b := w.heap.size + 1 + 1) (o := 0) ⟨by go_simp, by go_simp⟩ hb
  have R1 := At.later (v := .int .u64 0) (b := w.heap.size + 1 + 1) (o := 1) ⟨by go_simp, by go_simp⟩ hb
  have z2 : w.heap.size + 1 + 1 < w1.heap.size := by have := hb.size; simp at this; omega
  go_wp2_with fail
  refine (common_any _ _ _ _ _).mono ?_
  rintro e w2 ⟨rfl, hb2⟩
  have R2 := ((R0.alloc (.cells #[.int .u64 f, .int .u64 (f + (n - 1))] 77)).alloc (.cells #[.int .u64 g, .int .u64 (g + (m - 1))] 77)).later hb2
  have R3 := ((R1.alloc (.cells #[.int .u64 f, .int .u64 (f + (n - 1))] 77)).alloc (.cells #[.int .u64 g, .int .u64 (g + (m - 1))] 77)).later hb2
  have y2 : w.heap.size + 1 + 1 < w2.heap.size := by have := hb2.size; simp at this; omega
  go_wp2_with fail
  refine (none_yes _ _ _ hm).mono ?_
  rintro e w3 ⟨rfl, hb3⟩
  obtain ⟨r0, s0⟩ := (R2.alloc (.cells #[.int .u64 (max f g), .int .u64 (min (f + (n - 1)) (g + (m - 1)))] 77)).later hb3
  obtain ⟨r1, s1⟩ := (R3.alloc (.cells #[.int .u64 (max f g), .int .u64 (min (f + (n - 1)) (g + (m - 1)))] 77)).later hb3
  have x2 : w2.heap.size < w3.heap.size := by have := hb3.size; simp at this; omega
  go_wp2
  refine bodyPost_ret (v := .tuple #[.agg #[.int .u64 0, .int .u64 0], .int .i64 3]) (by simp [results, Try.results36, go_sem, r0, r1]) rfl ⟨rfl, ?_⟩
  exact bs (bs (bt (ba (bt (ba (ba (bt (ba (ba (ba (Below.refl _ _) _) _) _) hb) _) _) hb2) _) hb3) (by omega) _) (by omega) _

set_option maxHeartbeats 1000000 in
theorem cut_bad (f n g m e : Int) (w : World) (f0 : 0 ≤ f) (f1 : f ≤ 18446744073709551615) (n1 : n ≤ 18446744073709551615) (g0 : 0 ≤ g) (g1 : g ≤ 18446744073709551615) (m1 : m ≤ 18446744073709551615) (h : Bad2 f n g m e) (e1 : 1 ≤ e) :
    Calls Try.prog 36 #[.agg #[.int .u64 f, .int .u64 n], .agg #[.int .u64 g, .int .u64 m]] w fun e' w' => e' = .returned (.tuple #[.agg #[.int .u64 0, .int .u64 0], .int .i64 e]) ∧ Below w.heap.size w w' := by
  go_enter Try.func36, Try.ntmps36
  go_wp2_with fail
  refine (both_bad f n g m e _ f0 f1 n1 g0 g1 m1 h e1).mono ?_
  rintro e' w1 ⟨rfl, hb⟩
  obtain ⟨r0, s0⟩ := At.later (v := .int .u64 0) (b := w.heap.size + 1 + 1) (o := 0) ⟨by go_simp, by go_simp⟩ hb
  obtain ⟨r1, s1⟩ := At.later (v := .int .u64 0) (b := w.heap.size + 1 + 1) (o := 1) ⟨by go_simp, by go_simp⟩ hb
  have z2 : w.heap.size + 1 + 1 < w1.heap.size := by have := hb.size; simp at this; omega
  have z3 : w.heap.size + 1 + 1 < w1.heap.size + 1 := by omega
  go_wp2
  refine bodyPost_ret (v := .tuple #[.agg #[.int .u64 0, .int .u64 0], .int .i64 e]) (by simp [results, Try.results36, go_sem, r0, r1, z2, z3]) rfl ⟨rfl, ?_⟩
  exact ba (ba (bs (bs (bt (ba (ba (ba (Below.refl _ _) _) _) _) hb) (by omega) _) (by omega) _) _) _
end Go.Proofs.Ythimnpiiehggnaa
/- The iterator slices.Values over a slice of ends: it hands its elements on, in order. -/
namespace Go.Proofs.Ythimnpiiehggnaa
open Go.RowKit Go.Shelf
attribute [local go_sem] Oper.semAt_some

/-- The ends of a span that may be, or all numbers. -/
abbrev E64 := { x : Int × Int // 0 ≤ x.1 ∧ x.1 ≤ x.2 ∧ x.2 ≤ 18446744073709551615 }

/-- The cells of a row of ends. -/
def EndsAt (W : World) (b off : Nat) (zs : List E64) : Prop :=
  ∀ j (h : j < zs.length), W.cell? ⟨b, off + j * 2, none⟩ = some (.int .u64 (zs[j]).1.1) ∧ W.cell? ⟨b, off + j * 2 + 1, none⟩ = some (.int .u64 (zs[j]).1.2)

set_option maxRecDepth 100000 in
set_option maxHeartbeats 2000000 in
theorem values1_in (F : Fence) (n : Nat) (h42 : F.fn 62) (hro : F.round = none) (hn : 1 ≤ n) (l Bs n₀ b off cap : Nat) (zs : List E64) (hreach : zs.length * 16 ≤ 140737488351232) (hb : b < n₀) (J Jx : List E64 → World → Prop)
    (W : World) (hn0 : n₀ ≤ W.heap.size) (hJ : AbidesFrom W.heap.size J)
    (hY : ∀ pre x W, J pre W → pre.length < zs.length → YieldAt F (n - 1) Try.prog l #[.agg #[.int .u64 x.1.1, .int .u64 x.1.2]] W fun e W' =>
      (e = .returned (.bool true) ∧ J (pre ++ [x]) W' ∧ Below n₀ W W') ∨ (e = .returned (.bool false) ∧ Jx (pre ++ [x]) W'))
    (hBs : W.cell? ⟨Bs, 0, none⟩ = some (.slice (some ⟨b, off, none⟩) zs.length cap)) (hc : EndsAt W b off zs) (h0 : J [] W) :
    CallsIn F n Try.prog 62 #[.func (.yield l) #[] #[], .pointer (some ⟨Bs, 0, none⟩)] W fun e W' => (∃ v, e = .returned v) ∧
      ((∃ ys, ys = zs ∧ J ys W') ∨ (∃ pre, pre <+: zs ∧ Jx pre W')) := by
  refine callsIn_of_wp Try.func62 rfl h42 ?_ hro
  simp only [Try.ntmps62, List.size_toArray, List.length_cons, List.length_nil, Nat.reduceAdd, Nat.reduceSub, Array.replicate_succ, Array.replicate_zero, List.push_toArray, List.append_toArray, List.nil_append, List.cons_append]
  gi_wp2
  gi_loopw [7] (fun i wr => ∃ k : Nat, k ≤ zs.length ∧ i = .int .i64 k ∧ J (zs.take k) wr ∧ Below n₀ W wr)
    (fun i _ => zs.length - (intOf i).toNat)
  case atStart => exact ⟨0, Nat.zero_le _, rfl, h0, Below.refl _ _⟩
  case round =>
    obtain ⟨k, hk, rfl, hJs, hnx⟩ := hrel
    by_cases hlt : k < zs.length
    · obtain ⟨hc0, hc1⟩ := hc k hlt
      have hcx := (hnx.cell (p := ⟨b, off + k * 2, none⟩) hb).trans hc0
      have hcy := (hnx.cell (p := ⟨b, off + k * 2 + 1, none⟩) hb).trans hc1
      have hJa : J (zs.take k) (wr.alloc (.cells #[.int .u64 (zs[k]).1.1, .int .u64 (zs[k]).1.2] 77)) := hJ _ _ _ none hJs (World.grownBy_alloc _ _ none) (fun r e => by cases e)
      obtain ⟨fn, tmps, assign, body, hy, hR⟩ := hY _ zs[k] _ hJa (by rw [List.length_take]; omega)
      gi_wp2
      refine hR.mono ?_
      rintro e W3 (⟨rfl, hJ3, hk3⟩ | ⟨rfl, hJx3⟩)
      · gi_wp2
        go_roundw
        case rel => exact ⟨k + 1, by omega, by go_num, by rw [← List.take_append_getElem hlt]; exact hJ3, (hnx.alloc (Nat.le_trans hn0 hnx.size) _).trans hk3⟩
        case measure => simp [intOf]; omega
      · gi_wp2
        refine bodyPost_ret (results_none rfl _ _ _) rfl ?_
        exact ⟨⟨_, rfl⟩, .inr ⟨_, by rw [List.take_append_getElem hlt]; exact List.take_prefix _ _, hJx3⟩⟩
    · obtain rfl : k = zs.length := by omega
      gi_wp2
      go_end0
      exact ⟨⟨_, rfl⟩, .inl ⟨_, by rw [List.take_length], hJs⟩⟩

set_option maxRecDepth 100000 in
set_option maxHeartbeats 1000000 in
/-- .. at the nil slice: no round. -/
theorem values1_nil_in (F : Fence) (n : Nat) (h42 : F.fn 62) (hro : F.round = none) (l Bs : Nat) (J : List E64 → World → Prop) (W : World) (hBs : W.cell? ⟨Bs, 0, none⟩ = some (.slice none 0 0)) (h0 : J [] W) :
    CallsIn F n Try.prog 62 #[.func (.yield l) #[] #[], .pointer (some ⟨Bs, 0, none⟩)] W fun e W' => (∃ v, e = .returned v) ∧ J [] W' := by
  refine callsIn_of_wp Try.func62 rfl h42 ?_ hro
  simp only [Try.ntmps62, List.size_toArray, List.length_cons, List.length_nil, Nat.reduceAdd, Nat.reduceSub, Array.replicate_succ, Array.replicate_zero, List.push_toArray, List.append_toArray, List.nil_append, List.cons_append]
  gi_wp2
  gi_loopw [7] (fun i wr => i = .int .i64 0 ∧ J [] wr) (fun _ _ => 0)
  case atStart => exact ⟨rfl, h0⟩
  case round =>
    obtain ⟨rfl, hJs⟩ := hrel
    gi_wp2
    go_end0
    exact ⟨⟨_, rfl⟩, hJs⟩

/-- A slice value that reads as a row of ends below n₀. -/
def EndsOf (n₀ : Nat) (W : World) (sv : Value) (zs : List E64) : Prop :=
  (sv = .slice none 0 0 ∧ zs = []) ∨ ∃ b off cap, sv = .slice (some ⟨b, off, none⟩) zs.length cap ∧ b < n₀ ∧ EndsAt W b off zs
theorem EndsOf.below {n₀ : Nat} {A B : World} (h : Below n₀ A B) {sv : Value} {zs : List E64} : EndsOf n₀ A sv zs → EndsOf n₀ B sv zs
  | .inl e => .inl e
  | .inr ⟨b, off, cap, e, hb, hc⟩ => .inr ⟨b, off, cap, e, hb, fun j hj => ⟨(h.cell (p := ⟨b, off + j * 2, none⟩) hb).trans (hc j hj).1, (h.cell (p := ⟨b, off + j * 2 + 1, none⟩) hb).trans (hc j hj).2⟩⟩

/-- What spans asks of the function that it is handed. -/
def Hands (F : Fence) (n gf : Nat) (lb : Array Value) (n₀ : Nat) (zs : List E64) (w : World) : Prop :=
  SeqStopsK F n Try.prog gf lb (fun x : E64 => #[Value.agg #[.int .u64 x.1.1, .int .u64 x.1.2]]) (Below n₀) (fun ys => ys = zs) (fun pre => pre <+: zs) zs.length w

theorem values_stops (F : Fence) (n : Nat) (h42 : F.fn 62) (hro : F.round = none) (hn : 1 ≤ n) (Bs n₀ : Nat) (sv : Value) (zs : List E64) (hreach : zs.length * 16 ≤ 140737488351232) (w : World) (hBs : Bs < w.heap.size) (hn₀ : n₀ ≤ w.heap.size)
    (hc : w.cell? ⟨Bs, 0, none⟩ = some sv) (hI : EndsOf n₀ w sv zs) :
    Hands F n 62 #[.pointer (some ⟨Bs, 0, none⟩)] n₀ zs w := fun l J Jx W hW hJ _ hY h0 => by
  have hc' := (hW.cell (p := ⟨Bs, 0, none⟩) hBs).trans hc
  rcases hI.below (hW.mono hn₀) with ⟨rfl, rfl⟩ | ⟨b, off, cap, rfl, hb, hcs⟩
  · exact (values1_nil_in F n h42 hro l Bs J W hc' h0).mono fun e W' ⟨he, hj⟩ => ⟨he, .inl ⟨_, rfl, hj⟩⟩
  · exact values1_in F n h42 hro hn l Bs n₀ b off cap zs hreach hb J Jx W (Nat.le_trans hn₀ hW.size) hJ hY hc' hcs h0

set_option maxHeartbeats 1000000 in
/-- slices.Values itself: the slice value is boxed. -/
theorem values_any (a : Option Addr) (len cap : Nat) (w : World) :
    Calls Try.prog 57 #[.slice a len cap] w fun e w' => e = .returned (.func (.func 62) #[] #[.pointer (some ⟨w.heap.size, 0, none⟩)]) ∧ w' = w.alloc (.cells #[.slice a len cap] 82) := by
  go_enter Try.func57, Try.ntmps57
  go_wp2
  go_ret
  exact ⟨rfl, rfl⟩
end Go.Proofs.Ythimnpiiehggnaa
/- spans over any function that hands a row of ends on: the row of the spans, or the error where one would be all numbers. -/
namespace Go.Proofs.Ythimnpiiehggnaa
open Go.RowKit Go.Shelf
attribute [local go_sem] Oper.semAt_some

def Whole (x : E64) : Prop := x.1.1 = 0 ∧ x.1.2 = 18446744073709551615
def spanCells (zs : List E64) : List Value := zs.flatMap fun x => [.int .u64 x.1.1, .int .u64 (x.1.2 - x.1.1 + 1)]
theorem spanCells_snoc (zs : List E64) (x : E64) : spanCells (zs ++ [x]) = spanCells zs ++ [.int .u64 x.1.1, .int .u64 (x.1.2 - x.1.1 + 1)] := by simp [spanCells]

/-- A block of two cells. -/
def Box2 (W : World) (B : Nat) (t : TypeId) (x y : Value) : Prop := W.heap[B]? = some (.cells #[x, y] t (0, 0))
theorem Box2.new (W : World) (t : TypeId) (x y : Value) : Box2 (W.alloc (.cells #[x, y] t)) W.heap.size t x y := World.alloc_heap_new W _
theorem Box2.lt {W : World} {B : Nat} {t : TypeId} {x y : Value} (h : Box2 W B t x y) : B < W.heap.size := (Array.getElem?_eq_some_iff.1 h).1
theorem Box2.cell0 {W : World} {B : Nat} {t : TypeId} {x y : Value} (h : Box2 W B t x y) : W.cell? ⟨B, 0, none⟩ = some x := by simp [World.cell?, show W.heap[B]? = _ from h]
theorem Box2.cell1 {W : World} {B : Nat} {t : TypeId} {x y : Value} (h : Box2 W B t x y) : W.cell? ⟨B, 1, none⟩ = some y := by simp [World.cell?, show W.heap[B]? = _ from h]
theorem Box2.kept {W W' : World} {row : Option Nat} {B : Nat} {t : TypeId} {x y : Value} (h : Box2 W B t x y) (hg : W.grownBy W' row) (hne : some B ≠ row) : Box2 W' B t x y := (hg.block B h.lt hne).trans h
theorem Box2.below {W W' : World} {B : Nat} {t : TypeId} {x y : Value} (h : Box2 W B t x y) (hb : Below W.heap.size W W') : Box2 W' B t x y := (hb.block B h.lt).trans h
theorem boxed_below {W W' : World} {B : Nat} {t : TypeId} {x : Value} (h : Boxed W B t x) (hb : Below W.heap.size W W') : Boxed W' B t x := (hb.block B h.lt).trans h
theorem ownsRow_below {W W' : World} {base : Nat} {e : TypeId} {size : Nat} {v : Value} {n : Nat} {xs : List Value} (h : W.ownsRow base e size v n xs) (hb : Below W.heap.size W W') : W'.ownsRow base e size v n xs := by
  obtain ⟨h1, h2⟩ := h
  refine ⟨h1, ?_⟩
  rcases h2 with h2 | ⟨g, cap, cur, hv, hg, hh, r⟩
  · exact Or.inl h2
  · exact Or.inr ⟨g, cap, cur, hv, hg, (hb.block g (Array.getElem?_eq_some_iff.1 hh).1).trans hh, r⟩
theorem keeps_below {W W' : World} (h : Below W.heap.size W W') : KeepsOthers W W' := ⟨h.size, fun k _ hk _ => (h.block k (Array.getElem?_eq_some_iff.1 hk).1).trans hk⟩

theorem ownsRow_slice {W : World} {base : Nat} {e : TypeId} {size : Nat} {v : Value} {n : Nat} {xs : List Value} (h : W.ownsRow base e size v n xs) : ∃ a k c, v = .slice a k c := by
  rcases h.2 with ⟨rfl, _⟩ | ⟨g, cap, cur, rfl, _⟩ <;> exact ⟨_, _, _, rfl⟩
/-- A store into a box of another type leaves an owned row. -/
theorem ownsRow_other {W : World} {base B : Nat} {e t : TypeId} {size : Nat} {v u : Value} {n : Nat} {xs : List Value} (h : W.ownsRow base e size v n xs) (hb : Boxed W B t u) (hte : t ≠ e) (x : Value) : (W.setCell ⟨B, 0, none⟩ x).ownsRow base e size v n xs :=
  h.kept (grownBy_setCell' W B x) (.inr (hb.not_row hte h).symm)

theorem info24 : (Try.prog.info? 37).map (fun i => (i.zero, i.size, i.bytes)) = some (some (.agg #[.int .u64 0, .int .u64 0]), 2, 16) := by kernel_rfl

theorem span_all (a b : Int) (w : World) (ha : a = 0) (hb : b = 18446744073709551615) :
    Calls Try.prog 54 #[.agg #[.int .u64 a, .int .u64 b]] w fun e w' => e = .returned (.tuple #[.agg #[.int .u64 0, .int .u64 0], .int .i64 2]) ∧ Below w.heap.size w w' := by
  subst ha hb
  exact span_whole w

/-- What spans leaves. -/
def SpansPost (w : World) (zs : List E64) (e : Ending) (w' : World) : Prop :=
  Below w.heap.size w w' ∧ ((∃ v, (∀ x ∈ zs, ¬ Whole x) ∧ e = .returned (.tuple #[v, .int .i64 0]) ∧ w'.ownsRow w.heap.size 37 2 v zs.length (spanCells zs)) ∨
    ((∃ x ∈ zs, Whole x) ∧ e = .returned (.tuple #[.slice none 0 0, .int .i64 2])))

/-- Between two rounds. -/
def SpansI (w : World) (pre : List E64) (W : World) : Prop :=
  (((∃ v, Boxed W (w.heap.size + 1 + 1) 65 v ∧ W.ownsRow w.heap.size 37 2 v pre.length (spanCells pre) ∧ (∀ x ∈ pre, ¬ Whole x)) ∧ Boxed W w.heap.size 65 (.slice none 0 0)) ∧ Boxed W (w.heap.size + 1) 25 (.int .i64 0)) ∧ Below w.heap.size w W
/-- A round has left. -/
def SpansX (w : World) (c : Code) (pre : List E64) (W : World) : Prop :=
  (((c = .ret ∧ ∃ x ∈ pre, Whole x) ∧ Boxed W w.heap.size 65 (.slice none 0 0)) ∧ Boxed W (w.heap.size + 1) 25 (.int .i64 2)) ∧ Below w.heap.size w W

set_option maxRecDepth 100000 in
set_option maxHeartbeats 2000000 in
theorem spans_any (gf : Nat) (lb : Array Value) (zs : List E64) (hlen : zs.length * 16 ≤ 140737488351232) (w : World)
    (eg : ∀ args w, (callFunc gf args).run Try.prog w = .ok (.enter gf args) w)
    (hH : Hands Fence.wide 5 gf lb w.heap.size zs w) :
    Calls Try.prog 56 #[.func (.func gf) #[] lb] w (SpansPost w zs) := by
  refine (callsIn_wide (n := 6)).1 ?_
  obtain ⟨i0, hi, hz0, hz1, hz2⟩ := info_parts info24
  refine callsIn_of_wp_marks Try.func56 rfl trivial ?_ rfl
  simp only [Try.ntmps56, List.size_toArray, List.length_cons, List.length_nil, Nat.reduceAdd, Nat.reduceSub, Array.replicate_succ, Array.replicate_zero, List.push_toArray, List.append_toArray, List.nil_append, List.cons_append]
  gi_wp2
  have bL := ((Boxed.new w 65 (.slice none 0 0)).alloc (.cells #[.int .i64 0] 25)).alloc (.cells #[.slice none 0 0] 65)
  have bE := (Boxed.new (w.alloc (.cells #[.slice none 0 0] 65)) 25 (.int .i64 0)).alloc (.cells #[.slice none 0 0] 65)
  have bO := Boxed.new ((w.alloc (.cells #[.slice none 0 0] 65)).alloc (.cells #[.int .i64 0] 25)) 65 (.slice none 0 0)
  simp only [World.size_alloc] at bE bO
  have hB0 : Below w.heap.size w (((w.alloc (.cells #[.slice none 0 0] 65)).alloc (.cells #[.int .i64 0] 25)).alloc (.cells #[.slice none 0 0] 65)) := ba (ba (ba (Below.refl _ _) _) _) _
  have hsz : (((w.alloc (.cells #[.slice none 0 0] 65)).alloc (.cells #[.int .i64 0] 25)).alloc (.cells #[.slice none 0 0] 65)).heap.size = w.heap.size + 3 := by simp
  obtain ⟨W0, hW0⟩ : ∃ W0, ((w.alloc (.cells #[.slice none 0 0] 65)).alloc (.cells #[.int .i64 0] 25)).alloc (.cells #[.slice none 0 0] 65) = W0 := ⟨_, rfl⟩
  rw [hW0] at bL bE bO hB0 hsz ⊢
  clear hW0
  refine wpIn_rangeFunc_ownH rfl (by omega) (gf := gf) (lb := lb) rfl trivial eg hH belowK_t (belowK_b (by omega)) hB0 (fun _ => rfl)
    (SpansI w) (SpansX w)
    (OwnFrom.and (OwnFrom.and (OwnFrom.and (Own.from (holdsRow_own w.heap.size (w.heap.size + 1 + 1) 65 37 2 (fun pre => pre.length) (fun pre => spanCells pre) (fun pre _ => ∀ x ∈ pre, ¬ Whole x)) _) (Own.from (boxed_own _ _ _) _)) (Own.from (boxed_own _ _ _) _)) (ownFrom_below (Nat.le_refl _) (by omega)))
    (fun c => OwnFrom.and (OwnFrom.and (OwnFrom.and (ownFrom_pure _ (fun pre => c = .ret ∧ ∃ x ∈ pre, Whole x)) (Own.from (boxed_own _ _ _) _)) (Own.from (boxed_own _ _ _) _)) (ownFrom_below (Nat.le_refl _) (by omega)))
    ⟨⟨⟨⟨_, bO, World.ownsRow_nil _ _ _ _, by simp⟩, bL⟩, bE⟩, hB0⟩
    (fun x a' W => ∃ Bx, w.heap.size + 1 + 1 < Bx ∧ Box2 W Bx 77 (.int .u64 x.1.1) (.int .u64 x.1.2) ∧ a' = { tmps := #[.func (.func gf) #[] lb, undef, .pointer (some ⟨w.heap.size, 0, none⟩), .pointer (some ⟨w.heap.size + 1, 0, none⟩), .pointer (some ⟨w.heap.size + 1 + 1, 0, none⟩), .pointer (some ⟨Bx, 0, none⟩), undef, undef, .func (.func gf) #[] lb, .agg #[.int .u64 x.1.1, .int .u64 x.1.2], undef, undef, undef, undef, undef, undef, undef, undef, undef, undef, undef, undef, undef], defers := [] })
    (fun x a' X Y Z row hs hg hr => by
      obtain ⟨Bx, h1, h2, h3⟩ := hs
      refine ⟨Bx, h1, h2.kept hg (fun e => ?_), h3⟩
      obtain ⟨_, o, ho, hc⟩ := hr Bx e.symm
      rw [show Y.heap[Bx]? = _ from h2] at ho; cases ho; cases hc)
    ?assign ?body ?done ?stop
  case assign =>
    rintro l pre x W K hI hK
    obtain ⟨⟨⟨⟨v, b3, b4, b5⟩, b6⟩, b7⟩, hB1⟩ := hI
    gi_wp2
    exact hK _ _ ((KeepsOthers.alloc _ _).from _) ((Below.refl _ W).alloc hB1.size _) ⟨⟨⟨⟨v, b3.alloc _, ownsRow_below b4 ((Below.refl _ _).alloc (Nat.le_refl _) _), b5⟩, b6.alloc _⟩, b7.alloc _⟩, hB1.alloc hB1.size _⟩ ⟨W.heap.size, b3.lt, Box2.new W _ _ _, rfl⟩
  case body =>
    rintro l pre x a' W hl ⟨r, hr⟩ hI ⟨Bx, hBx, bX, rfl⟩ hlt
    obtain ⟨⟨⟨⟨v, b3, b4, b5⟩, b6⟩, b7⟩, hB1⟩ := hI
    have x0 := bX.cell0
    have x1 := bX.cell1
    have hx := x.2
    by_cases hw : Whole x
    · gi_wp2_with fail
      refine ⟨trivial, ?_⟩
      refine (CallsIn.inRound l (callsIn_wide.2 (span_all x.1.1 x.1.2 _ hw.1 hw.2))).mono ?_
      rintro e W1 ⟨rfl, hb⟩
      have b3' := (boxed_below b3 hb)
      have b6' := (boxed_below b6 hb)
      have b7' := (boxed_below b7 hb)
      have c3 := b3'.cell
      have c6 := b6'.cell
      have d6 := b6'.frozen
      have c7 := b7'.cell
      have d7 := b7'.frozen
      have z := hB1.size
      have z1 := hb.size
      have z2 : w.heap.size + 1 < W1.heap.size := b7'.lt
      have z3 : w.heap.size < W1.heap.size := b6'.lt
      gi_wp2_with fail
      exact ⟨((keeps_below hb).trans ((KeepsOthers.setCell _ _ _).trans ((KeepsOthers.setCell _ _ _).trans (KeepsOthers.alloc _ _)))).from _,
        ⟨⟨⟨⟨rfl, x, by simp, hw⟩, ((b6'.set _).other (by omega) _).alloc _⟩, ((b7'.other (by omega) _).set _).alloc _⟩, ba (bs (bs (bt hB1 hb) (Nat.le_refl _) _) (by omega) _) _⟩⟩
    · gi_wp2_with fail
      refine ⟨trivial, ?_⟩
      refine (CallsIn.inRound l (callsIn_wide.2 (span_ok x.1.1 x.1.2 _ hx.1 hx.2.1 hx.2.2 (fun h1 h2 => hw ⟨h1, h2⟩)))).mono ?_
      rintro e W1 ⟨rfl, hb⟩
      have b3' := (boxed_below b3 hb)
      have b4' := (ownsRow_below b4 hb)
      have b6' := (boxed_below b6 hb)
      have b7' := (boxed_below b7 hb)
      have c3 := b3'.cell
      have z := hB1.size
      have z1 := hb.size
      have z2 : w.heap.size + 1 + 1 < W1.heap.size := b3'.lt
      have z3 : w.heap.size + 1 + 1 < W1.heap.size + 1 := by omega
      have hn2 := cell_two_new (W1.alloc (.cells #[.int .u64 x.1.1, .int .u64 (x.1.2 - x.1.1 + 1)] 37)) (.int .u64 x.1.1) (.int .u64 (x.1.2 - x.1.1 + 1)) 37
      rw [World.size_alloc] at hn2
      have hrow := ownsRow_below (ownsRow_below b4' ((Below.refl _ _).alloc (Nat.le_refl _) (.cells #[.int .u64 x.1.1, .int .u64 (x.1.2 - x.1.1 + 1)] 37))) ((Below.refl _ _).alloc (Nat.le_refl _) (.cells #[.int .u64 x.1.1, .int .u64 (x.1.2 - x.1.1 + 1)] 37))
      have b3a := b3'.alloc (.cells #[.int .u64 x.1.1, .int .u64 (x.1.2 - x.1.1 + 1)] 37)
      gi_wp2_with (gi_at_builtin; go_must (refine wpListIn_append_own _ rfl _ _ 65 rfl w.heap.size 37 i0 (.agg #[.int .u64 0, .int .u64 0]) 2 16 Try.underlying65 hi hz0 hz1 hz2 rfl (by decide) _ _ _ rfl hrow ⟨W1.heap.size + 1, 0, none⟩ 1 1 [.int .u64 x.1.1, .int .u64 (x.1.2 - x.1.1 + 1)] rfl rfl hn2 (by simp [Value.oneCell']) (by unfold maxLen; omega) (by omega) (by simp; omega) ?_); intro v' w1 hown' hgrow _; obtain ⟨g', cap', rfl⟩ := ownsRow_succ hown'; obtain ⟨hv1, hv2, hr2, hk2, hb2⟩ := b3a.appended (by decide) (ownsRow_below b4' ((Below.refl _ _).alloc (Nat.le_refl _) _)) (by simp; omega) (by omega) hown' hgrow; have hc1 := hv1.cell; have hf1 := hv1.frozen)
      have n6 := (b6'.alloc (.cells #[.int .u64 x.1.1, .int .u64 (x.1.2 - x.1.1 + 1)] 37)).alloc (.cells #[.int .u64 x.1.1, .int .u64 (x.1.2 - x.1.1 + 1)] 37)
      have n7 := (b7'.alloc (.cells #[.int .u64 x.1.1, .int .u64 (x.1.2 - x.1.1 + 1)] 37)).alloc (.cells #[.int .u64 x.1.1, .int .u64 (x.1.2 - x.1.1 + 1)] 37)
      have hbW : Below w.heap.size W (w1.setCell ⟨w.heap.size + 1 + 1, 0, none⟩ (.slice (some ⟨g', 0, none⟩) (pre.length + 1) cap')) := (hb.mono z).trans (((Below.refl _ W1).alloc (by omega) _).trans hb2)
      exact ⟨((keeps_below hb).trans ((KeepsOthers.alloc _ _).trans hk2)).from _, hbW,
        ⟨⟨⟨⟨_, hv2, by rw [spanCells_snoc]; simpa using hr2, fun y hy => (List.mem_append.1 hy).elim (b5 y) (fun h => by rw [List.mem_singleton.1 h]; exact hw)⟩, (n6.kept hgrow (n6.not_row (by decide) hrow)).other (by omega) _⟩, (n7.kept hgrow (n7.not_row (by decide) hrow)).other (by omega) _⟩, hB1.trans hbW⟩⟩
  case done =>
    rintro D zs' W hD hzs ⟨⟨⟨⟨v, b3, b4, b5⟩, b6⟩, b7⟩, hB1⟩ hK
    have hzs' : zs' = zs := hzs
    subst hzs'
    have c3 := b3.cell
    have c6 := b6.cell
    have d6 := b6.frozen
    have c7 := b7.cell
    have d7 := b7.frozen
    obtain ⟨va, vn, vc, rfl⟩ := ownsRow_slice b4
    gi_wp2
    have b6n := (b6.set (.slice va vn vc)).other (show w.heap.size ≠ w.heap.size + 1 by omega) (.int .i64 0)
    have b7n := (b7.other (show w.heap.size + 1 ≠ w.heap.size by omega) (.slice va vn vc)).set (.int .i64 0)
    have b4n := ownsRow_other (ownsRow_other b4 b6 (by decide) (.slice va vn vc)) (b7.other (show w.heap.size + 1 ≠ w.heap.size by omega) (.slice va vn vc)) (by decide) (.int .i64 0)
    have hKn := ((KeepsOthers.setCell W ⟨w.heap.size, 0, none⟩ (.slice va vn vc)).trans (KeepsOthers.setCell _ ⟨w.heap.size + 1, 0, none⟩ (.int .i64 0))).same D _ hK rfl
    have hBn : Below w.heap.size w _ := bs (bs hB1 (b := w.heap.size) (o := 0) (Nat.le_refl _) (.slice va vn vc)) (b := w.heap.size + 1) (o := 0) (by omega) (.int .i64 0)
    refine ⟨by simp, .inl ⟨_, _, rfl, run_takeDeferred hKn, ?_⟩⟩
    have e6 := cell_kept b6n.cell (grownBy_putObj' _ D (.deferred none)) (fun r e => by cases e; exact ⟨_, hKn, rfl⟩)
    have e7 := cell_kept b7n.cell (grownBy_putObj' _ D (.deferred none)) (fun r e => by cases e; exact ⟨_, hKn, rfl⟩)
    refine ⟨.tuple #[.slice va vn vc, .int .i64 0], by simp [results, Try.results56, go_sem, e6, e7], ?_⟩
    exact ⟨hBn.trans (belowK_b (w := w) (Nat.le_refl _) _ D _ _ (by omega) hKn rfl rfl), .inl ⟨_, b5, rfl, ownsRow_putObj b4n _ hKn rfl⟩⟩
  case stop =>
    rintro D c pre W hD hp ⟨⟨⟨⟨rfl, hx⟩, b6⟩, b7⟩, hB1⟩ hK
    have c6 := b6.cell
    have c7 := b7.cell
    gi_wp2
    refine ⟨by simp, .inl ⟨_, _, rfl, run_takeDeferred hK, ?_⟩⟩
    have e6 := cell_kept c6 (grownBy_putObj' W D (.deferred none)) (fun r e => by cases e; exact ⟨_, hK, rfl⟩)
    have e7 := cell_kept c7 (grownBy_putObj' W D (.deferred none)) (fun r e => by cases e; exact ⟨_, hK, rfl⟩)
    refine ⟨.tuple #[.slice none 0 0, .int .i64 2], by simp [results, Try.results56, go_sem, e6, e7], ?_⟩
    refine ⟨hB1.trans (belowK_b (w := w) (Nat.le_refl _) W D _ _ (by omega) hK rfl rfl), .inr ⟨?_, rfl⟩⟩
    obtain ⟨x, hx1, hx2⟩ := hx
    exact ⟨x, hp.subset hx1, hx2⟩
end Go.Proofs.Ythimnpiiehggnaa
