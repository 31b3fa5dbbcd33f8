/- Contracts of Cut, for every input. -/
import Derived.Test.YtkaenoejfdcokaaEnds
namespace Go.Proofs.Ytkaenoejfdcokaa
open Go.RowKit

set_option maxHeartbeats 1000000 in
theorem cut_meet (f n g m : Int) (w : World) (f0 : 0 ≤ f) (n1 : 1 ≤ n) (n2 : n ≤ 18446744073709551615) (fn : f + n ≤ 18446744073709551616) (g0 : 0 ≤ g) (m1 : 1 ≤ m) (gm : g + m ≤ 18446744073709551616)
    (hm : max f g ≤ min (f + (n - 1)) (g + (m - 1))) :
    Calls Try.prog 14 #[.agg #[.int .u64 f, .int .u64 n], .agg #[.int .u64 g, .int .u64 m]] w fun e w' => e = .returned (.tuple #[.agg #[.int .u64 (max f g), .int .u64 (min (f + (n - 1)) (g + (m - 1)) - max f g + 1)], .int .i64 0]) ∧ Below w.heap.size w w' := by
  go_enter Try.func14, Try.ntmps14
  go_wp2_with fail
  refine (both_ok f n g m _ f0 n1 fn g0 m1 gm).mono ?_
  rintro e w1 ⟨rfl, hb⟩
  have R0 := At.later (v := .int .u64 0) (b := w.heap.size + 1 + 1) (o := 0) ⟨by go_simp, by go_simp⟩ hb
  have R1 := At.later (v := .int .u64 0) (b := w.heap.size + 1 + 1) (o := 1) ⟨by go_simp, by go_simp⟩ hb
  have z2 : w.heap.size + 1 + 1 < w1.heap.size := by have := hb.size; simp at this; omega
  go_wp2_with fail
  refine (common_any _ _ _ _ _).mono ?_
  rintro e w2 ⟨rfl, hb2⟩
  have R2 := ((R0.alloc (.cells #[.int .u64 f, .int .u64 (f + (n - 1))] 55)).alloc (.cells #[.int .u64 g, .int .u64 (g + (m - 1))] 55)).later hb2
  have R3 := ((R1.alloc (.cells #[.int .u64 f, .int .u64 (f + (n - 1))] 55)).alloc (.cells #[.int .u64 g, .int .u64 (g + (m - 1))] 55)).later hb2
  have y2 : w.heap.size + 1 + 1 < w2.heap.size := by have := hb2.size; simp at this; omega
  go_wp2_with fail
  refine (none_no _ _ _ hm).mono ?_
  rintro e w3 ⟨rfl, hb3⟩
  have R4 := (R2.alloc (.cells #[.int .u64 (max f g), .int .u64 (min (f + (n - 1)) (g + (m - 1)))] 55)).later hb3
  have R5 := (R3.alloc (.cells #[.int .u64 (max f g), .int .u64 (min (f + (n - 1)) (g + (m - 1)))] 55)).later hb3
  obtain ⟨c0, _⟩ := (At.new w2 #[.int .u64 (max f g), .int .u64 (min (f + (n - 1)) (g + (m - 1)))] 55 (o := 0) (v := .int .u64 (max f g)) rfl).later hb3
  obtain ⟨c1, _⟩ := (At.new w2 #[.int .u64 (max f g), .int .u64 (min (f + (n - 1)) (g + (m - 1)))] 55 (o := 1) (v := .int .u64 (min (f + (n - 1)) (g + (m - 1)))) rfl).later hb3
  have x2 : w2.heap.size < w3.heap.size := by have := hb3.size; simp at this; omega
  go_wp2_with fail
  refine (span_ok _ _ _ (by omega) hm (by omega) (by omega)).mono ?_
  rintro e w4 ⟨rfl, hb4⟩
  obtain ⟨r0, s0⟩ := R4.later hb4
  obtain ⟨r1, s1⟩ := R5.later hb4
  have x4 := hb4.size
  go_wp2
  refine bodyPost_ret (v := .tuple #[.agg #[.int .u64 (max f g), .int .u64 (min (f + (n - 1)) (g + (m - 1)) - max f g + 1)], .int .i64 0]) (by simp [results, Try.results14, go_sem, r0, r1]) rfl ⟨rfl, ?_⟩
  exact bs (bs (bt (bt (ba (bt (ba (ba (bt (ba (ba (ba (Below.refl _ _) _) _) _) hb) _) _) hb2) _) hb3) hb4) (by omega) _) (by omega) _

set_option maxHeartbeats 1000000 in
theorem cut_none (f n g m : Int) (w : World) (f0 : 0 ≤ f) (n1 : 1 ≤ n) (fn : f + n ≤ 18446744073709551616) (g0 : 0 ≤ g) (m1 : 1 ≤ m) (gm : g + m ≤ 18446744073709551616)
    (hm : min (f + (n - 1)) (g + (m - 1)) < max f g) :
    Calls Try.prog 14 #[.agg #[.int .u64 f, .int .u64 n], .agg #[.int .u64 g, .int .u64 m]] w fun e w' => e = .returned (.tuple #[.agg #[.int .u64 0, .int .u64 0], .int .i64 3]) ∧ Below w.heap.size w w' := by
  go_enter Try.func14, Try.ntmps14
  go_wp2_with fail
  refine (both_ok f n g m _ f0 n1 fn g0 m1 gm).mono ?_
  rintro e w1 ⟨rfl, hb⟩
  have R0 := At.later (v := .int .u64 0) (b := w.heap.size + 1 + 1) (o := 0) ⟨by go_simp, by go_simp⟩ hb
  have R1 := At.later (v := .int .u64 0) (b := w.heap.size + 1 + 1) (o := 1) ⟨by go_simp, by go_simp⟩ hb
  have z2 : w.heap.size + 1 + 1 < w1.heap.size := by have := hb.size; simp at this; omega
  go_wp2_with fail
  refine (common_any _ _ _ _ _).mono ?_
  rintro e w2 ⟨rfl, hb2⟩
  have R2 := ((R0.alloc (.cells #[.int .u64 f, .int .u64 (f + (n - 1))] 55)).alloc (.cells #[.int .u64 g, .int .u64 (g + (m - 1))] 55)).later hb2
  have R3 := ((R1.alloc (.cells #[.int .u64 f, .int .u64 (f + (n - 1))] 55)).alloc (.cells #[.int .u64 g, .int .u64 (g + (m - 1))] 55)).later hb2
  have y2 : w.heap.size + 1 + 1 < w2.heap.size := by have := hb2.size; simp at this; omega
  go_wp2_with fail
  refine (none_yes _ _ _ hm).mono ?_
  rintro e w3 ⟨rfl, hb3⟩
  obtain ⟨r0, s0⟩ := (R2.alloc (.cells #[.int .u64 (max f g), .int .u64 (min (f + (n - 1)) (g + (m - 1)))] 55)).later hb3
  obtain ⟨r1, s1⟩ := (R3.alloc (.cells #[.int .u64 (max f g), .int .u64 (min (f + (n - 1)) (g + (m - 1)))] 55)).later hb3
  have x2 : w2.heap.size < w3.heap.size := by have := hb3.size; simp at this; omega
  go_wp2
  refine bodyPost_ret (v := .tuple #[.agg #[.int .u64 0, .int .u64 0], .int .i64 3]) (by simp [results, Try.results14, go_sem, r0, r1]) rfl ⟨rfl, ?_⟩
  exact bs (bs (bt (ba (bt (ba (ba (bt (ba (ba (ba (Below.refl _ _) _) _) _) hb) _) _) hb2) _) hb3) (by omega) _) (by omega) _

set_option maxHeartbeats 1000000 in
theorem cut_bad (f n g m e : Int) (w : World) (f0 : 0 ≤ f) (f1 : f ≤ 18446744073709551615) (n1 : n ≤ 18446744073709551615) (g0 : 0 ≤ g) (g1 : g ≤ 18446744073709551615) (m1 : m ≤ 18446744073709551615) (h : Bad2 f n g m e) (e1 : 1 ≤ e) :
    Calls Try.prog 14 #[.agg #[.int .u64 f, .int .u64 n], .agg #[.int .u64 g, .int .u64 m]] w fun e' w' => e' = .returned (.tuple #[.agg #[.int .u64 0, .int .u64 0], .int .i64 e]) ∧ Below w.heap.size w w' := by
  go_enter Try.func14, Try.ntmps14
  go_wp2_with fail
  refine (both_bad f n g m e _ f0 f1 n1 g0 g1 m1 h e1).mono ?_
  rintro e' w1 ⟨rfl, hb⟩
  obtain ⟨r0, s0⟩ := At.later (v := .int .u64 0) (b := w.heap.size + 1 + 1) (o := 0) ⟨by go_simp, by go_simp⟩ hb
  obtain ⟨r1, s1⟩ := At.later (v := .int .u64 0) (b := w.heap.size + 1 + 1) (o := 1) ⟨by go_simp, by go_simp⟩ hb
  have z2 : w.heap.size + 1 + 1 < w1.heap.size := by have := hb.size; simp at this; omega
  have z3 : w.heap.size + 1 + 1 < w1.heap.size + 1 := by omega
  go_wp2
  refine bodyPost_ret (v := .tuple #[.agg #[.int .u64 0, .int .u64 0], .int .i64 e]) (by simp [results, Try.results14, go_sem, r0, r1, z2, z3]) rfl ⟨rfl, ?_⟩
  exact ba (ba (bs (bs (bt (ba (ba (ba (Below.refl _ _) _) _) _) hb) (by omega) _) (by omega) _) _) _
end Go.Proofs.Ytkaenoejfdcokaa
