/- Less, for every input: the walks. -/
import Derived.Test.YtkaenoejfdcokaaLessA
namespace Go.Proofs.Ytkaenoejfdcokaa
open Go.RowKit Go.Shelf

set_option maxHeartbeats 2000000 in
set_option maxRecDepth 100000 in
theorem less_none (f n g m A B : Int) (w : World) (f0 : 0 ≤ f) (n1 : 1 ≤ n) (fn : f + n ≤ 18446744073709551616) (g0 : 0 ≤ g) (m1 : 1 ≤ m) (gm : g + m ≤ 18446744073709551616) (HA : Hid (A = max f g)) (HB : Hid (B = min (f + (n - 1)) (g + (m - 1)))) (hm : B < A) :
    Calls Try.prog 15 #[.agg #[.int .u64 f, .int .u64 n], .agg #[.int .u64 g, .int .u64 m]] w (LessPost w [(f, n)]) := by
  go_enter Try.func15, Try.ntmps15
  go_wp2_with fail
  refine (both_ok f n g m _ f0 n1 fn g0 m1 gm).mono ?_
  rintro e w1 ⟨rfl, hb⟩
  have P0 := At.later (v := .int .u64 f) (b := w.heap.size) (o := 0) ⟨by go_simp, by go_simp⟩ hb
  have P1 := At.later (v := .int .u64 n) (b := w.heap.size) (o := 1) ⟨by go_simp, by go_simp⟩ hb
  have z1 : w.heap.size + 1 < w1.heap.size := by have := hb.size; simp at this; omega
  go_wp2_with fail
  refine (common_is _ _ _ _ A B _ HA.out HB.out).mono ?_
  rintro e w2 ⟨rfl, hb2⟩
  have X0 := ((At.new w1 #[.int .u64 f, .int .u64 (f + (n - 1))] 55 (o := 0) (v := .int .u64 f) rfl).alloc (.cells #[.int .u64 g, .int .u64 (g + (m - 1))] 55)).later hb2
  have X1 := ((At.new w1 #[.int .u64 f, .int .u64 (f + (n - 1))] 55 (o := 1) (v := .int .u64 (f + (n - 1))) rfl).alloc (.cells #[.int .u64 g, .int .u64 (g + (m - 1))] 55)).later hb2
  have P2 := ((P0.alloc (.cells #[.int .u64 f, .int .u64 (f + (n - 1))] 55)).alloc (.cells #[.int .u64 g, .int .u64 (g + (m - 1))] 55)).later hb2
  have P3 := ((P1.alloc (.cells #[.int .u64 f, .int .u64 (f + (n - 1))] 55)).alloc (.cells #[.int .u64 g, .int .u64 (g + (m - 1))] 55)).later hb2
  have z2 : w1.heap.size + 1 < w2.heap.size := by have := hb2.size; simp at this; omega
  have hB2 : Below w.heap.size w w2 := bt (ba (ba (bt (ba (ba (Below.refl _ _) _) _) hb) _) _) hb2
  go_wp2_with fail
  refine (none_yes _ _ _ hm).mono ?_
  rintro e w3 ⟨rfl, hb3⟩
  obtain ⟨p0, _⟩ := (P2.alloc (.cells #[.int .u64 A, .int .u64 B] 55)).later hb3
  obtain ⟨p1, _⟩ := (P3.alloc (.cells #[.int .u64 A, .int .u64 B] 55)).later hb3
  have hB3 : Below w.heap.size w w3 := bt (ba hB2 _) hb3
  go_wp2
  go_ret2
  refine ⟨_, rfl, ?_, ba hB3 _⟩
  exact ⟨rfl, .inr ⟨w3.heap.size, 1, _, rfl, hB3.size, World.alloc_heap_new _ _, Nat.le_refl _, one_le_maxLen, rfl, rfl⟩⟩

set_option maxHeartbeats 2000000 in
set_option maxRecDepth 100000 in
theorem less_both (f n g m A B : Int) (w : World) (f0 : 0 ≤ f) (n1 : 1 ≤ n) (fn : f + n ≤ 18446744073709551616) (g0 : 0 ≤ g) (m1 : 1 ≤ m) (gm : g + m ≤ 18446744073709551616) (HA : Hid (A = max f g)) (HB : Hid (B = min (f + (n - 1)) (g + (m - 1)))) (hm : A ≤ B) (c1 : f < A) (c2 : B < f + (n - 1)) :
    Calls Try.prog 15 #[.agg #[.int .u64 f, .int .u64 n], .agg #[.int .u64 g, .int .u64 m]] w (LessPost w [(f, A - 1 - f + 1), (B + 1, f + (n - 1) - (B + 1) + 1)]) := by
  have hA1 : f ≤ A := by have := HA.out; omega
  have hB1 : B ≤ f + (n - 1) := by have := HB.out; omega
  obtain ⟨i1, hi, hz0, hz1, hz2⟩ := info_parts info55
  go_enter Try.func15, Try.ntmps15
  go_wp2_with fail
  refine (both_ok f n g m _ f0 n1 fn g0 m1 gm).mono ?_
  rintro e w1 ⟨rfl, hb⟩
  have P0 := At.later (v := .int .u64 f) (b := w.heap.size) (o := 0) ⟨by go_simp, by go_simp⟩ hb
  have P1 := At.later (v := .int .u64 n) (b := w.heap.size) (o := 1) ⟨by go_simp, by go_simp⟩ hb
  have z1 : w.heap.size + 1 < w1.heap.size := by have := hb.size; simp at this; omega
  go_wp2_with fail
  refine (common_is _ _ _ _ A B _ HA.out HB.out).mono ?_
  rintro e w2 ⟨rfl, hb2⟩
  have X0 := ((At.new w1 #[.int .u64 f, .int .u64 (f + (n - 1))] 55 (o := 0) (v := .int .u64 f) rfl).alloc (.cells #[.int .u64 g, .int .u64 (g + (m - 1))] 55)).later hb2
  have X1 := ((At.new w1 #[.int .u64 f, .int .u64 (f + (n - 1))] 55 (o := 1) (v := .int .u64 (f + (n - 1))) rfl).alloc (.cells #[.int .u64 g, .int .u64 (g + (m - 1))] 55)).later hb2
  have P2 := ((P0.alloc (.cells #[.int .u64 f, .int .u64 (f + (n - 1))] 55)).alloc (.cells #[.int .u64 g, .int .u64 (g + (m - 1))] 55)).later hb2
  have P3 := ((P1.alloc (.cells #[.int .u64 f, .int .u64 (f + (n - 1))] 55)).alloc (.cells #[.int .u64 g, .int .u64 (g + (m - 1))] 55)).later hb2
  have z2 : w1.heap.size + 1 < w2.heap.size := by have := hb2.size; simp at this; omega
  have hB2 : Below w.heap.size w w2 := bt (ba (ba (bt (ba (ba (Below.refl _ _) _) _) hb) _) _) hb2
  go_wp2_with fail
  refine (none_no _ _ _ hm).mono ?_
  rintro e w3 ⟨rfl, hb3⟩
  have x0k := (X0.alloc (.cells #[.int .u64 A, .int .u64 B] 55)).later hb3
  have x1k := (X1.alloc (.cells #[.int .u64 A, .int .u64 B] 55)).later hb3
  have y0k := (At.new w2 #[.int .u64 A, .int .u64 B] 55 (o := 0) (v := .int .u64 A) rfl).later hb3
  have y1k := (At.new w2 #[.int .u64 A, .int .u64 B] 55 (o := 1) (v := .int .u64 B) rfl).later hb3
  have z3 : w2.heap.size < w3.heap.size := by have := hb3.size; simp at this; omega
  have z4 : w1.heap.size < w3.heap.size := by omega
  have hB3 : Below w.heap.size w w3 := bt (ba hB2 _) hb3
  have x0 := x0k.1
  have x1 := x1k.1
  have y0 := y0k.1
  have y1 := y1k.1
  go_wp2_with (first | (at_builtin; refine wpList_append_own _ rfl (.tmp 33) (.tmp 40) 60 rfl w.heap.size 55 i1 (.agg #[.int .u64 0, .int .u64 0]) 2 16 Try.underlying60 hi hz0 hz1 hz2 rfl (by decide) _ _ _ rfl (World.ownsRow_nil _ _ _ _) ⟨w3.heap.size, 0, none⟩ 1 1 [.int .u64 f, .int .u64 (A - 1)] rfl rfl (cell_two_new _ _ _ _) (by simp [Value.oneCell']) (by unfold maxLen; omega) (by omega) (by have := hB3.size; simp; omega) ?_; intro v4 w4 hown4 hgrow4 _; obtain ⟨g4, cap4, rfl⟩ := ownsRow_succ hown4; have hgs : Below w3.heap.size w3 w4 := ((Below.refl _ _).alloc (Nat.le_refl _) _).grown hgrow4 (by simp) (fun k e => by cases e); have q0 := (x0k.later hgs).1; have q1 := (x1k.later hgs).1; have r0 := (y0k.later hgs).1; have r1 := (y1k.later hgs).1) | (at_builtin; refine wpList_append_own _ rfl (.tmp 47) (.tmp 54) 60 rfl w.heap.size 55 i1 (.agg #[.int .u64 0, .int .u64 0]) 2 16 Try.underlying60 hi hz0 hz1 hz2 rfl (by decide) _ _ _ rfl (ownsRow_below hown4 ((Below.refl _ _).alloc (Nat.le_refl _) _)) ⟨w4.heap.size, 0, none⟩ 1 1 [.int .u64 (B + 1), .int .u64 (f + (n - 1))] rfl rfl (cell_two_new _ _ _ _) (by simp [Value.oneCell']) (by unfold maxLen; omega) (by omega) (by have := hB3.size; have := hgs.size; simp; omega) ?_; intro v5 w5 hown5 hgrow5 _; obtain ⟨g5, cap5, rfl⟩ := ownsRow_succ hown5))
  have hB5 : Below w.heap.size w w5 := ((hB3.grown (row := none) ⟨hgs.os, hgs.tape, hgs.output, hgs.size, fun k hk _ => hgs.block k hk⟩ hB3.size (fun k e => by cases e)).alloc (Nat.le_trans hB3.size hgs.size) _).grown hgrow5 (by have := hB3.size; have := hgs.size; simp; omega) (ownsRow_from hown4)
  refine (values_any _ _ _ _).mono ?_
  rintro e w8 ⟨rfl, rfl⟩
  have hH := hands_values (zs := [⟨(f, A - 1), by omega, by show f ≤ A - 1; omega, by show A - 1 ≤ _; omega⟩, ⟨(B + 1, f + (n - 1)), by show 0 ≤ B + 1; omega, by show B + 1 ≤ f + (n - 1); omega, by show f + (n - 1) ≤ _; omega⟩]) hown5 (by simp)
  go_wp2_with fail
  refine (spans_any _ _ _ (by simp) _ enters42 hH).mono ?_
  rintro e w9 hS
  obtain ⟨v9, rfl, ho, hb9⟩ := less_end (ba (hB5) _) (nw2 (nw_hi (show A - 1 ≠ _ by omega)) (nw_lo (show B + 1 ≠ 0 by omega))) hS
  obtain ⟨va, vn, vc, rfl⟩ := ownsRow_slice ho
  go_wp2
  go_ret2
  exact ⟨_, rfl, ho, hb9⟩

set_option maxHeartbeats 2000000 in
set_option maxRecDepth 100000 in
theorem less_left (f n g m A B : Int) (w : World) (f0 : 0 ≤ f) (n1 : 1 ≤ n) (fn : f + n ≤ 18446744073709551616) (g0 : 0 ≤ g) (m1 : 1 ≤ m) (gm : g + m ≤ 18446744073709551616) (HA : Hid (A = max f g)) (HB : Hid (B = min (f + (n - 1)) (g + (m - 1)))) (hm : A ≤ B) (c1 : f < A) (c2 : f + (n - 1) ≤ B) :
    Calls Try.prog 15 #[.agg #[.int .u64 f, .int .u64 n], .agg #[.int .u64 g, .int .u64 m]] w (LessPost w [(f, A - 1 - f + 1)]) := by
  have hA1 : f ≤ A := by have := HA.out; omega
  have hB1 : B ≤ f + (n - 1) := by have := HB.out; omega
  obtain ⟨i1, hi, hz0, hz1, hz2⟩ := info_parts info55
  go_enter Try.func15, Try.ntmps15
  go_wp2_with fail
  refine (both_ok f n g m _ f0 n1 fn g0 m1 gm).mono ?_
  rintro e w1 ⟨rfl, hb⟩
  have P0 := At.later (v := .int .u64 f) (b := w.heap.size) (o := 0) ⟨by go_simp, by go_simp⟩ hb
  have P1 := At.later (v := .int .u64 n) (b := w.heap.size) (o := 1) ⟨by go_simp, by go_simp⟩ hb
  have z1 : w.heap.size + 1 < w1.heap.size := by have := hb.size; simp at this; omega
  go_wp2_with fail
  refine (common_is _ _ _ _ A B _ HA.out HB.out).mono ?_
  rintro e w2 ⟨rfl, hb2⟩
  have X0 := ((At.new w1 #[.int .u64 f, .int .u64 (f + (n - 1))] 55 (o := 0) (v := .int .u64 f) rfl).alloc (.cells #[.int .u64 g, .int .u64 (g + (m - 1))] 55)).later hb2
  have X1 := ((At.new w1 #[.int .u64 f, .int .u64 (f + (n - 1))] 55 (o := 1) (v := .int .u64 (f + (n - 1))) rfl).alloc (.cells #[.int .u64 g, .int .u64 (g + (m - 1))] 55)).later hb2
  have P2 := ((P0.alloc (.cells #[.int .u64 f, .int .u64 (f + (n - 1))] 55)).alloc (.cells #[.int .u64 g, .int .u64 (g + (m - 1))] 55)).later hb2
  have P3 := ((P1.alloc (.cells #[.int .u64 f, .int .u64 (f + (n - 1))] 55)).alloc (.cells #[.int .u64 g, .int .u64 (g + (m - 1))] 55)).later hb2
  have z2 : w1.heap.size + 1 < w2.heap.size := by have := hb2.size; simp at this; omega
  have hB2 : Below w.heap.size w w2 := bt (ba (ba (bt (ba (ba (Below.refl _ _) _) _) hb) _) _) hb2
  go_wp2_with fail
  refine (none_no _ _ _ hm).mono ?_
  rintro e w3 ⟨rfl, hb3⟩
  have x0k := (X0.alloc (.cells #[.int .u64 A, .int .u64 B] 55)).later hb3
  have x1k := (X1.alloc (.cells #[.int .u64 A, .int .u64 B] 55)).later hb3
  have y0k := (At.new w2 #[.int .u64 A, .int .u64 B] 55 (o := 0) (v := .int .u64 A) rfl).later hb3
  have y1k := (At.new w2 #[.int .u64 A, .int .u64 B] 55 (o := 1) (v := .int .u64 B) rfl).later hb3
  have z3 : w2.heap.size < w3.heap.size := by have := hb3.size; simp at this; omega
  have z4 : w1.heap.size < w3.heap.size := by omega
  have hB3 : Below w.heap.size w w3 := bt (ba hB2 _) hb3
  have x0 := x0k.1
  have x1 := x1k.1
  have y0 := y0k.1
  have y1 := y1k.1
  go_wp2_with ((at_builtin; refine wpList_append_own _ rfl (.tmp 33) (.tmp 40) 60 rfl w.heap.size 55 i1 (.agg #[.int .u64 0, .int .u64 0]) 2 16 Try.underlying60 hi hz0 hz1 hz2 rfl (by decide) _ _ _ rfl (World.ownsRow_nil _ _ _ _) ⟨w3.heap.size, 0, none⟩ 1 1 [.int .u64 f, .int .u64 (A - 1)] rfl rfl (cell_two_new _ _ _ _) (by simp [Value.oneCell']) (by unfold maxLen; omega) (by omega) (by have := hB3.size; simp; omega) ?_; intro v4 w4 hown4 hgrow4 _; obtain ⟨g4, cap4, rfl⟩ := ownsRow_succ hown4; have hgs : Below w3.heap.size w3 w4 := ((Below.refl _ _).alloc (Nat.le_refl _) _).grown hgrow4 (by simp) (fun k e => by cases e); have q0 := (x0k.later hgs).1; have q1 := (x1k.later hgs).1; have r0 := (y0k.later hgs).1; have r1 := (y1k.later hgs).1))
  have hB4 : Below w.heap.size w w4 := ((hB3.grown (row := none) ⟨hgs.os, hgs.tape, hgs.output, hgs.size, fun k hk _ => hgs.block k hk⟩ hB3.size (fun k e => by cases e)))
  refine (values_any _ _ _ _).mono ?_
  rintro e w8 ⟨rfl, rfl⟩
  have hH := hands_values (zs := [⟨(f, A - 1), by omega, by show f ≤ A - 1; omega, by show A - 1 ≤ _; omega⟩]) hown4 (by simp)
  go_wp2_with fail
  refine (spans_any _ _ _ (by simp) _ enters42 hH).mono ?_
  rintro e w9 hS
  obtain ⟨v9, rfl, ho, hb9⟩ := less_end (ba (hB4) _) (nw1 (nw_hi (show A - 1 ≠ _ by omega))) hS
  obtain ⟨va, vn, vc, rfl⟩ := ownsRow_slice ho
  go_wp2
  go_ret2
  exact ⟨_, rfl, ho, hb9⟩

set_option maxHeartbeats 2000000 in
set_option maxRecDepth 100000 in
theorem less_right (f n g m A B : Int) (w : World) (f0 : 0 ≤ f) (n1 : 1 ≤ n) (fn : f + n ≤ 18446744073709551616) (g0 : 0 ≤ g) (m1 : 1 ≤ m) (gm : g + m ≤ 18446744073709551616) (HA : Hid (A = max f g)) (HB : Hid (B = min (f + (n - 1)) (g + (m - 1)))) (hm : A ≤ B) (c1 : A ≤ f) (c2 : B < f + (n - 1)) :
    Calls Try.prog 15 #[.agg #[.int .u64 f, .int .u64 n], .agg #[.int .u64 g, .int .u64 m]] w (LessPost w [(B + 1, f + (n - 1) - (B + 1) + 1)]) := by
  have hA1 : f ≤ A := by have := HA.out; omega
  have hB1 : B ≤ f + (n - 1) := by have := HB.out; omega
  obtain ⟨i1, hi, hz0, hz1, hz2⟩ := info_parts info55
  go_enter Try.func15, Try.ntmps15
  go_wp2_with fail
  refine (both_ok f n g m _ f0 n1 fn g0 m1 gm).mono ?_
  rintro e w1 ⟨rfl, hb⟩
  have P0 := At.later (v := .int .u64 f) (b := w.heap.size) (o := 0) ⟨by go_simp, by go_simp⟩ hb
  have P1 := At.later (v := .int .u64 n) (b := w.heap.size) (o := 1) ⟨by go_simp, by go_simp⟩ hb
  have z1 : w.heap.size + 1 < w1.heap.size := by have := hb.size; simp at this; omega
  go_wp2_with fail
  refine (common_is _ _ _ _ A B _ HA.out HB.out).mono ?_
  rintro e w2 ⟨rfl, hb2⟩
  have X0 := ((At.new w1 #[.int .u64 f, .int .u64 (f + (n - 1))] 55 (o := 0) (v := .int .u64 f) rfl).alloc (.cells #[.int .u64 g, .int .u64 (g + (m - 1))] 55)).later hb2
  have X1 := ((At.new w1 #[.int .u64 f, .int .u64 (f + (n - 1))] 55 (o := 1) (v := .int .u64 (f + (n - 1))) rfl).alloc (.cells #[.int .u64 g, .int .u64 (g + (m - 1))] 55)).later hb2
  have P2 := ((P0.alloc (.cells #[.int .u64 f, .int .u64 (f + (n - 1))] 55)).alloc (.cells #[.int .u64 g, .int .u64 (g + (m - 1))] 55)).later hb2
  have P3 := ((P1.alloc (.cells #[.int .u64 f, .int .u64 (f + (n - 1))] 55)).alloc (.cells #[.int .u64 g, .int .u64 (g + (m - 1))] 55)).later hb2
  have z2 : w1.heap.size + 1 < w2.heap.size := by have := hb2.size; simp at this; omega
  have hB2 : Below w.heap.size w w2 := bt (ba (ba (bt (ba (ba (Below.refl _ _) _) _) hb) _) _) hb2
  go_wp2_with fail
  refine (none_no _ _ _ hm).mono ?_
  rintro e w3 ⟨rfl, hb3⟩
  have x0k := (X0.alloc (.cells #[.int .u64 A, .int .u64 B] 55)).later hb3
  have x1k := (X1.alloc (.cells #[.int .u64 A, .int .u64 B] 55)).later hb3
  have y0k := (At.new w2 #[.int .u64 A, .int .u64 B] 55 (o := 0) (v := .int .u64 A) rfl).later hb3
  have y1k := (At.new w2 #[.int .u64 A, .int .u64 B] 55 (o := 1) (v := .int .u64 B) rfl).later hb3
  have z3 : w2.heap.size < w3.heap.size := by have := hb3.size; simp at this; omega
  have z4 : w1.heap.size < w3.heap.size := by omega
  have hB3 : Below w.heap.size w w3 := bt (ba hB2 _) hb3
  have x0 := x0k.1
  have x1 := x1k.1
  have y0 := y0k.1
  have y1 := y1k.1
  go_wp2_with ((at_builtin; refine wpList_append_own _ rfl (.tmp 47) (.tmp 54) 60 rfl w.heap.size 55 i1 (.agg #[.int .u64 0, .int .u64 0]) 2 16 Try.underlying60 hi hz0 hz1 hz2 rfl (by decide) _ _ _ rfl (World.ownsRow_nil _ _ _ _) ⟨w3.heap.size, 0, none⟩ 1 1 [.int .u64 (B + 1), .int .u64 (f + (n - 1))] rfl rfl (cell_two_new _ _ _ _) (by simp [Value.oneCell']) (by unfold maxLen; omega) (by omega) (by have := hB3.size; simp; omega) ?_; intro v4 w4 hown4 hgrow4 _; obtain ⟨g4, cap4, rfl⟩ := ownsRow_succ hown4; have hgs : Below w3.heap.size w3 w4 := ((Below.refl _ _).alloc (Nat.le_refl _) _).grown hgrow4 (by simp) (fun k e => by cases e)))
  have hB4 : Below w.heap.size w w4 := ((hB3.grown (row := none) ⟨hgs.os, hgs.tape, hgs.output, hgs.size, fun k hk _ => hgs.block k hk⟩ hB3.size (fun k e => by cases e)))
  refine (values_any _ _ _ _).mono ?_
  rintro e w8 ⟨rfl, rfl⟩
  have hH := hands_values (zs := [⟨(B + 1, f + (n - 1)), by show 0 ≤ B + 1; omega, by show B + 1 ≤ f + (n - 1); omega, by show f + (n - 1) ≤ _; omega⟩]) hown4 (by simp)
  go_wp2_with fail
  refine (spans_any _ _ _ (by simp) _ enters42 hH).mono ?_
  rintro e w9 hS
  obtain ⟨v9, rfl, ho, hb9⟩ := less_end (ba (hB4) _) (nw1 (nw_lo (show B + 1 ≠ 0 by omega))) hS
  obtain ⟨va, vn, vc, rfl⟩ := ownsRow_slice ho
  go_wp2
  go_ret2
  exact ⟨_, rfl, ho, hb9⟩

set_option maxHeartbeats 2000000 in
set_option maxRecDepth 100000 in
theorem less_nil (f n g m A B : Int) (w : World) (f0 : 0 ≤ f) (n1 : 1 ≤ n) (fn : f + n ≤ 18446744073709551616) (g0 : 0 ≤ g) (m1 : 1 ≤ m) (gm : g + m ≤ 18446744073709551616) (HA : Hid (A = max f g)) (HB : Hid (B = min (f + (n - 1)) (g + (m - 1)))) (hm : A ≤ B) (c1 : A ≤ f) (c2 : f + (n - 1) ≤ B) :
    Calls Try.prog 15 #[.agg #[.int .u64 f, .int .u64 n], .agg #[.int .u64 g, .int .u64 m]] w (LessPost w []) := by
  have hA1 : f ≤ A := by have := HA.out; omega
  have hB1 : B ≤ f + (n - 1) := by have := HB.out; omega
  go_enter Try.func15, Try.ntmps15
  go_wp2_with fail
  refine (both_ok f n g m _ f0 n1 fn g0 m1 gm).mono ?_
  rintro e w1 ⟨rfl, hb⟩
  have P0 := At.later (v := .int .u64 f) (b := w.heap.size) (o := 0) ⟨by go_simp, by go_simp⟩ hb
  have P1 := At.later (v := .int .u64 n) (b := w.heap.size) (o := 1) ⟨by go_simp, by go_simp⟩ hb
  have z1 : w.heap.size + 1 < w1.heap.size := by have := hb.size; simp at this; omega
  go_wp2_with fail
  refine (common_is _ _ _ _ A B _ HA.out HB.out).mono ?_
  rintro e w2 ⟨rfl, hb2⟩
  have X0 := ((At.new w1 #[.int .u64 f, .int .u64 (f + (n - 1))] 55 (o := 0) (v := .int .u64 f) rfl).alloc (.cells #[.int .u64 g, .int .u64 (g + (m - 1))] 55)).later hb2
  have X1 := ((At.new w1 #[.int .u64 f, .int .u64 (f + (n - 1))] 55 (o := 1) (v := .int .u64 (f + (n - 1))) rfl).alloc (.cells #[.int .u64 g, .int .u64 (g + (m - 1))] 55)).later hb2
  have P2 := ((P0.alloc (.cells #[.int .u64 f, .int .u64 (f + (n - 1))] 55)).alloc (.cells #[.int .u64 g, .int .u64 (g + (m - 1))] 55)).later hb2
  have P3 := ((P1.alloc (.cells #[.int .u64 f, .int .u64 (f + (n - 1))] 55)).alloc (.cells #[.int .u64 g, .int .u64 (g + (m - 1))] 55)).later hb2
  have z2 : w1.heap.size + 1 < w2.heap.size := by have := hb2.size; simp at this; omega
  have hB2 : Below w.heap.size w w2 := bt (ba (ba (bt (ba (ba (Below.refl _ _) _) _) hb) _) _) hb2
  go_wp2_with fail
  refine (none_no _ _ _ hm).mono ?_
  rintro e w3 ⟨rfl, hb3⟩
  have x0k := (X0.alloc (.cells #[.int .u64 A, .int .u64 B] 55)).later hb3
  have x1k := (X1.alloc (.cells #[.int .u64 A, .int .u64 B] 55)).later hb3
  have y0k := (At.new w2 #[.int .u64 A, .int .u64 B] 55 (o := 0) (v := .int .u64 A) rfl).later hb3
  have y1k := (At.new w2 #[.int .u64 A, .int .u64 B] 55 (o := 1) (v := .int .u64 B) rfl).later hb3
  have z3 : w2.heap.size < w3.heap.size := by have := hb3.size; simp at this; omega
  have z4 : w1.heap.size < w3.heap.size := by omega
  have hB3 : Below w.heap.size w w3 := bt (ba hB2 _) hb3
  have x0 := x0k.1
  have x1 := x1k.1
  have y0 := y0k.1
  have y1 := y1k.1
  go_wp2_with fail
  refine (values_any _ _ _ _).mono ?_
  rintro e w8 ⟨rfl, rfl⟩
  have hH := hands_values (zs := []) (World.ownsRow_nil w3 w.heap.size 55 2) (by simp)
  go_wp2_with fail
  refine (spans_any _ _ _ (by simp) _ enters42 hH).mono ?_
  rintro e w9 hS
  obtain ⟨v9, rfl, ho, hb9⟩ := less_end (ba (hB3) _) nw0 hS
  obtain ⟨va, vn, vc, rfl⟩ := ownsRow_slice ho
  go_wp2
  go_ret2
  exact ⟨_, rfl, ho, hb9⟩

end Go.Proofs.Ytkaenoejfdcokaa
