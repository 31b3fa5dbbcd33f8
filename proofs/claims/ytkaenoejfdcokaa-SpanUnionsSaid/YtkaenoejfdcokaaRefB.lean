/- The reference's Less, for every two spans that may be: what it hands back owns the cells of the list that lessL tells. -/
import Derived.Test.YtkaenoejfdcokaaRefA
namespace Go.Proofs.Ytkaenoejfdcokaa
open Go.RowKit Go.Shelf

/-- What the reference's Less leaves. -/
def RowPost (w : World) (L : List (Int × Int)) (e : Ending) (w' : World) : Prop :=
  ∃ v, e = .returned v ∧ w'.ownsRow w.heap.size 24 2 v L.length (rowCells L) ∧ Below w.heap.size w w'

theorem five_of {w1 W : World} {b c : Nat} {f n g m : Int} (A0 : At w1 b 0 (.int .u64 f)) (A1 : At w1 b 1 (.int .u64 n)) (G0 : At w1 c 0 (.int .u64 g)) (G1 : At w1 c 1 (.int .u64 m)) (h : Below w1.heap.size w1 W) :
    W.cell? ⟨b, 0, none⟩ = some (.int .u64 f) ∧ W.cell? ⟨b, 1, none⟩ = some (.int .u64 n) ∧ W.cell? ⟨c, 0, none⟩ = some (.int .u64 g) ∧ W.cell? ⟨c, 1, none⟩ = some (.int .u64 m) ∧ Below w1.heap.size w1 W :=
  ⟨(A0.later h).1, (A1.later h).1, (G0.later h).1, (G1.later h).1, h⟩
theorem five_later {w1 W W' : World} {b c : Nat} {f n g m : Int} (hb : Below W.heap.size W W') (A0 : At w1 b 0 (.int .u64 f)) (A1 : At w1 b 1 (.int .u64 n)) (G0 : At w1 c 0 (.int .u64 g)) (G1 : At w1 c 1 (.int .u64 m))
    (h : W.cell? ⟨b, 0, none⟩ = some (.int .u64 f) ∧ W.cell? ⟨b, 1, none⟩ = some (.int .u64 n) ∧ W.cell? ⟨c, 0, none⟩ = some (.int .u64 g) ∧ W.cell? ⟨c, 1, none⟩ = some (.int .u64 m) ∧ Below w1.heap.size w1 W) :
    W'.cell? ⟨b, 0, none⟩ = some (.int .u64 f) ∧ W'.cell? ⟨b, 1, none⟩ = some (.int .u64 n) ∧ W'.cell? ⟨c, 0, none⟩ = some (.int .u64 g) ∧ W'.cell? ⟨c, 1, none⟩ = some (.int .u64 m) ∧ Below w1.heap.size w1 W' :=
  five_of A0 A1 G0 G1 (bt h.2.2.2.2 hb)
theorem owns_empty {W : World} {t : TypeId} {g base : Nat} {size : Nat} (h : W.heap[g]? = some (.cells #[] t (0, 0))) (hb : base ≤ g) : W.ownsRow base t size (.slice (some ⟨g, 0, none⟩) 0 0) 0 [] :=
  ⟨by simp, .inr ⟨g, 0, #[], rfl, hb, h, Nat.le_refl _, Nat.zero_le _, by simp, by simp⟩⟩

set_option maxHeartbeats 2000000 in
set_option maxRecDepth 100000 in
theorem rless_none (f n g m A B : Int) (w : World) (f0 : 0 ≤ f) (n1 : 1 ≤ n) (fn : f + n ≤ 18446744073709551616) (g0 : 0 ≤ g) (m1 : 1 ≤ m) (gm : g + m ≤ 18446744073709551616) (HA : Hid (A = max f g)) (HB : Hid (B = min (f + (n - 1)) (g + (m - 1)))) (hm : B < A) :
    Calls Try.prog 18 #[.agg #[.int .u64 f, .int .u64 n], .agg #[.int .u64 g, .int .u64 m]] w (RowPost w [(f, n)]) := by
  go_enter Try.func18, Try.ntmps18
  go_wp2_with fail
  refine (meet_no f n g m A B _ f0 n1 fn g0 m1 gm HA HB hm).mono ?_
  rintro e w1 ⟨rfl, hb⟩
  have A0 := At.later (v := .int .u64 f) (b := w.heap.size) (o := 0) ⟨by go_simp, by go_simp⟩ hb
  have A1 := At.later (v := .int .u64 n) (b := w.heap.size) (o := 1) ⟨by go_simp, by go_simp⟩ hb
  have G0 := At.later (v := .int .u64 g) (b := w.heap.size + 1) (o := 0) ⟨by go_simp, by go_simp⟩ hb
  have G1 := At.later (v := .int .u64 m) (b := w.heap.size + 1) (o := 1) ⟨by go_simp, by go_simp⟩ hb
  have a0 := A0.1
  have a1 := A1.1
  have b0 := G0.1
  have b1 := G1.1
  have hB1 : Below w.heap.size w w1 := bt (ba (ba (Below.refl _ _) _) _) hb
  have z := hB1.size
  have z0 : w.heap.size < w1.heap.size := A0.lt
  have z1 : w.heap.size + 1 < w1.heap.size := G0.lt
  go_wp2
  go_ret
  exact ⟨_, rfl, ⟨rfl, .inr ⟨w1.heap.size, 1, _, rfl, hB1.size, World.alloc_heap_new _ _, Nat.le_refl _, one_le_maxLen, rfl, rfl⟩⟩, ba hB1 _⟩

set_option maxHeartbeats 2000000 in
set_option maxRecDepth 100000 in
theorem rless_both (f n g m A B : Int) (w : World) (f0 : 0 ≤ f) (n1 : 1 ≤ n) (fn : f + n ≤ 18446744073709551616) (g0 : 0 ≤ g) (m1 : 1 ≤ m) (gm : g + m ≤ 18446744073709551616) (HA : Hid (A = max f g)) (HB : Hid (B = min (f + (n - 1)) (g + (m - 1)))) (hm : A ≤ B) (c1 : f < g) (c2 : g + (m - 1) < f + (n - 1)) :
    Calls Try.prog 18 #[.agg #[.int .u64 f, .int .u64 n], .agg #[.int .u64 g, .int .u64 m]] w (RowPost w [(f, g - 1 - f + 1), (g + (m - 1) + 1, f + (n - 1) - (g + (m - 1) + 1) + 1)]) := by
  obtain ⟨i1, hi, hz0, hz1, hz2⟩ := info_parts info24
  go_enter Try.func18, Try.ntmps18
  go_wp2_with fail
  refine (meet_yes f n g m A B _ f0 n1 fn g0 m1 gm HA HB hm).mono ?_
  rintro e w1 ⟨rfl, hb⟩
  have A0 := At.later (v := .int .u64 f) (b := w.heap.size) (o := 0) ⟨by go_simp, by go_simp⟩ hb
  have A1 := At.later (v := .int .u64 n) (b := w.heap.size) (o := 1) ⟨by go_simp, by go_simp⟩ hb
  have G0 := At.later (v := .int .u64 g) (b := w.heap.size + 1) (o := 0) ⟨by go_simp, by go_simp⟩ hb
  have G1 := At.later (v := .int .u64 m) (b := w.heap.size + 1) (o := 1) ⟨by go_simp, by go_simp⟩ hb
  have a0 := A0.1
  have a1 := A1.1
  have b0 := G0.1
  have b1 := G1.1
  have hB1 : Below w.heap.size w w1 := bt (ba (ba (Below.refl _ _) _) _) hb
  have z := hB1.size
  have z0 : w.heap.size < w1.heap.size := A0.lt
  have z1 : w.heap.size + 1 < w1.heap.size := G0.lt
  have hown1 : (w1.alloc (.cells #[] 24)).ownsRow w1.heap.size 24 2 (.slice (some ⟨w1.heap.size, 0, none⟩) 0 0) 0 [] := owns_empty (World.alloc_heap_new _ _) (Nat.le_refl _)
  have hE : Below w1.heap.size w1 (w1.alloc (.cells #[] 24)) := (Below.refl _ _).alloc (Nat.le_refl _) _
  go_wp2_with fail
  refine (of_ok f (g - 1) _ f0 (by omega) (by omega) (by omega)).mono ?_
  rintro e w2 ⟨rfl, hb2⟩
  have hown2 := ownsRow_below (ownsRow_below hown1 hb2) ((Below.refl _ _).alloc (Nat.le_refl _) (.cells #[.int .u64 f, .int .u64 (g - 1 - f + 1)] 24))
  have hB2 : Below w1.heap.size w1 w2 := bt hE hb2
  go_wp2_with (at_builtin; refine wpList_append_own _ rfl (.tmp 18) (.tmp 25) 34 rfl w1.heap.size 24 i1 (.agg #[.int .u64 0, .int .u64 0]) 2 16 Try.underlying34 hi hz0 hz1 hz2 rfl (by decide) _ _ _ rfl hown2 ⟨w2.heap.size, 0, none⟩ 1 1 [.int .u64 f, .int .u64 (g - 1 - f + 1)] rfl rfl (cell_two_new _ _ _ _) (by simp [Value.oneCell']) (by unfold maxLen; omega) (by omega) (by have := hB2.size; simp; omega) ?_; intro v3 w3 hown3 hgrow3 _; obtain ⟨g3, cap3, rfl⟩ := ownsRow_succ hown3; have hB3 : Below w1.heap.size w1 w3 := (hB2.alloc hB2.size _).grown hgrow3 (by have := hB2.size; simp; omega) (ownsRow_from hown2); have a0 := (A0.later hB3).1; have a1 := (A1.later hB3).1; have b0 := (G0.later hB3).1; have b1 := (G1.later hB3).1)
  have hown3 := hown3.drew
  go_region_held3 (fun W => W.cell? ⟨w.heap.size, 0, none⟩ = some (.int .u64 f) ∧ W.cell? ⟨w.heap.size, 1, none⟩ = some (.int .u64 n) ∧ W.cell? ⟨w.heap.size + 1, 0, none⟩ = some (.int .u64 g) ∧ W.cell? ⟨w.heap.size + 1, 1, none⟩ = some (.int .u64 m) ∧ Below w1.heap.size w1 W) (first | assumption | exact five_of A0 A1 G0 G1 hB3.drew) (first | (go_at_call 13; refine (rlast_ok _ _ _ (by omega) (by omega) (by omega)).mono ?_; rintro e wL ⟨rfl, hbL⟩; have hSL := five_later hbL A0 A1 G0 G1 (by assumption); have hown3 := ownsRow_below hown3 hbL))
  all_goals
    have hsum : IntKind.u64.wrap (g + (m - 1) + 1) = g + (m - 1) + 1 := u64_in (by omega) (by omega)
    have hown3 := hown3.drew
    go_wp2_with fail
    go_region_held3 (fun W => W.cell? ⟨w.heap.size, 0, none⟩ = some (.int .u64 f) ∧ W.cell? ⟨w.heap.size, 1, none⟩ = some (.int .u64 n) ∧ W.cell? ⟨w.heap.size + 1, 0, none⟩ = some (.int .u64 g) ∧ W.cell? ⟨w.heap.size + 1, 1, none⟩ = some (.int .u64 m) ∧ Below w1.heap.size w1 W) (first | assumption | exact five_of A0 A1 G0 G1 hSL.2.2.2.2.drew | exact five_of A0 A1 G0 G1 hB5 | exact five_of A0 A1 G0 G1 (hSO.2.2.2.2.alloc (by have := hSO.2.2.2.2.size; omega) _)) (first | (go_at_call 13; refine (rlast_ok _ _ _ (by assumption) (by assumption) (by assumption)).mono ?_; rintro e wL ⟨rfl, hbL⟩; have hSL := five_later hbL A0 A1 G0 G1 (by assumption); have hown3 := ownsRow_below hown3 hbL) | (go_at_call 22; refine (of_ok _ _ _ (by omega) (by omega) (by omega) (by omega)).mono ?_; rintro e wO ⟨rfl, hbO⟩; have hSO := five_later hbO A0 A1 G0 G1 (by assumption); have hown3 := ownsRow_below hown3 hbO) | ((refine step_append_lies _ (by rfl) _ _ _ (by rfl) w1.heap.size 24 i1 _ 2 16 Try.underlying34 hi hz0 hz1 hz2 rfl (by omega) (.slice (some ⟨g3, 0, none⟩) (0 + 1) cap3) (0 + 1) ([] ++ [.int .u64 f, .int .u64 (g - 1 - f + 1)]) (by rfl) (ownsRow_below hown3 ((Below.refl _ _).alloc (Nat.le_refl _) _)) ⟨wO.heap.size, 0, none⟩ 1 1 [.int .u64 (g + (m - 1) + 1), .int .u64 (f + (n - 1) - (g + (m - 1) + 1) + 1)] (by rfl) (by rfl) (World.news_of_block (cs := #[.int .u64 (g + (m - 1) + 1), .int .u64 (f + (n - 1) - (g + (m - 1) + 1) + 1)]) (t := 24) (fr := (0, 0)) (World.alloc_heap_new wO _)) (by simp [Value.oneCell']) (by omega) (by unfold maxLen; omega) (by omega) (by have := hSO.2.2.2.2.size; simp; omega) (wO.heap.size + 1) (by simp) ?_; intro g5 cap5 w5 hown5 hgrow5 hat5 hlt5; have hB5 : Below w1.heap.size w1 w5 := (hSO.2.2.2.2.alloc (by have := hSO.2.2.2.2.size; omega) _).grown hgrow5 (by have := hSO.2.2.2.2.size; simp; omega) (ownsRow_from hown3))))
  all_goals
    go_wp2
    go_ret
    exact ⟨_, rfl, ownsRow_mono hown5 hB1.size, hB1.trans (hB5.mono hB1.size)⟩

set_option maxHeartbeats 2000000 in
set_option maxRecDepth 100000 in
theorem rless_left (f n g m A B : Int) (w : World) (f0 : 0 ≤ f) (n1 : 1 ≤ n) (fn : f + n ≤ 18446744073709551616) (g0 : 0 ≤ g) (m1 : 1 ≤ m) (gm : g + m ≤ 18446744073709551616) (HA : Hid (A = max f g)) (HB : Hid (B = min (f + (n - 1)) (g + (m - 1)))) (hm : A ≤ B) (c1 : f < g) (c2 : f + (n - 1) ≤ g + (m - 1)) :
    Calls Try.prog 18 #[.agg #[.int .u64 f, .int .u64 n], .agg #[.int .u64 g, .int .u64 m]] w (RowPost w [(f, g - 1 - f + 1)]) := by
  obtain ⟨i1, hi, hz0, hz1, hz2⟩ := info_parts info24
  go_enter Try.func18, Try.ntmps18
  go_wp2_with fail
  refine (meet_yes f n g m A B _ f0 n1 fn g0 m1 gm HA HB hm).mono ?_
  rintro e w1 ⟨rfl, hb⟩
  have A0 := At.later (v := .int .u64 f) (b := w.heap.size) (o := 0) ⟨by go_simp, by go_simp⟩ hb
  have A1 := At.later (v := .int .u64 n) (b := w.heap.size) (o := 1) ⟨by go_simp, by go_simp⟩ hb
  have G0 := At.later (v := .int .u64 g) (b := w.heap.size + 1) (o := 0) ⟨by go_simp, by go_simp⟩ hb
  have G1 := At.later (v := .int .u64 m) (b := w.heap.size + 1) (o := 1) ⟨by go_simp, by go_simp⟩ hb
  have a0 := A0.1
  have a1 := A1.1
  have b0 := G0.1
  have b1 := G1.1
  have hB1 : Below w.heap.size w w1 := bt (ba (ba (Below.refl _ _) _) _) hb
  have z := hB1.size
  have z0 : w.heap.size < w1.heap.size := A0.lt
  have z1 : w.heap.size + 1 < w1.heap.size := G0.lt
  have hown1 : (w1.alloc (.cells #[] 24)).ownsRow w1.heap.size 24 2 (.slice (some ⟨w1.heap.size, 0, none⟩) 0 0) 0 [] := owns_empty (World.alloc_heap_new _ _) (Nat.le_refl _)
  have hE : Below w1.heap.size w1 (w1.alloc (.cells #[] 24)) := (Below.refl _ _).alloc (Nat.le_refl _) _
  go_wp2_with fail
  refine (of_ok f (g - 1) _ f0 (by omega) (by omega) (by omega)).mono ?_
  rintro e w2 ⟨rfl, hb2⟩
  have hown2 := ownsRow_below (ownsRow_below hown1 hb2) ((Below.refl _ _).alloc (Nat.le_refl _) (.cells #[.int .u64 f, .int .u64 (g - 1 - f + 1)] 24))
  have hB2 : Below w1.heap.size w1 w2 := bt hE hb2
  go_wp2_with (at_builtin; refine wpList_append_own _ rfl (.tmp 18) (.tmp 25) 34 rfl w1.heap.size 24 i1 (.agg #[.int .u64 0, .int .u64 0]) 2 16 Try.underlying34 hi hz0 hz1 hz2 rfl (by decide) _ _ _ rfl hown2 ⟨w2.heap.size, 0, none⟩ 1 1 [.int .u64 f, .int .u64 (g - 1 - f + 1)] rfl rfl (cell_two_new _ _ _ _) (by simp [Value.oneCell']) (by unfold maxLen; omega) (by omega) (by have := hB2.size; simp; omega) ?_; intro v3 w3 hown3 hgrow3 _; obtain ⟨g3, cap3, rfl⟩ := ownsRow_succ hown3; have hB3 : Below w1.heap.size w1 w3 := (hB2.alloc hB2.size _).grown hgrow3 (by have := hB2.size; simp; omega) (ownsRow_from hown2); have a0 := (A0.later hB3).1; have a1 := (A1.later hB3).1; have b0 := (G0.later hB3).1; have b1 := (G1.later hB3).1)
  have hown3 := hown3.drew
  go_region_held3 (fun W => W.cell? ⟨w.heap.size, 0, none⟩ = some (.int .u64 f) ∧ W.cell? ⟨w.heap.size, 1, none⟩ = some (.int .u64 n) ∧ W.cell? ⟨w.heap.size + 1, 0, none⟩ = some (.int .u64 g) ∧ W.cell? ⟨w.heap.size + 1, 1, none⟩ = some (.int .u64 m) ∧ Below w1.heap.size w1 W) (first | assumption | exact five_of A0 A1 G0 G1 hB3.drew) (first | (go_at_call 13; refine (rlast_ok _ _ _ (by omega) (by omega) (by omega)).mono ?_; rintro e wL ⟨rfl, hbL⟩; have hSL := five_later hbL A0 A1 G0 G1 (by assumption); have hown3 := ownsRow_below hown3 hbL))
  all_goals
    go_wp2
    go_ret
    exact ⟨_, rfl, ownsRow_mono hown3 hB1.size, hB1.trans (hSL.2.2.2.2.mono hB1.size)⟩

set_option maxHeartbeats 2000000 in
set_option maxRecDepth 100000 in
theorem rless_right (f n g m A B : Int) (w : World) (f0 : 0 ≤ f) (n1 : 1 ≤ n) (fn : f + n ≤ 18446744073709551616) (g0 : 0 ≤ g) (m1 : 1 ≤ m) (gm : g + m ≤ 18446744073709551616) (HA : Hid (A = max f g)) (HB : Hid (B = min (f + (n - 1)) (g + (m - 1)))) (hm : A ≤ B) (c1 : g ≤ f) (c2 : g + (m - 1) < f + (n - 1)) :
    Calls Try.prog 18 #[.agg #[.int .u64 f, .int .u64 n], .agg #[.int .u64 g, .int .u64 m]] w (RowPost w [(g + (m - 1) + 1, f + (n - 1) - (g + (m - 1) + 1) + 1)]) := by
  obtain ⟨i1, hi, hz0, hz1, hz2⟩ := info_parts info24
  go_enter Try.func18, Try.ntmps18
  go_wp2_with fail
  refine (meet_yes f n g m A B _ f0 n1 fn g0 m1 gm HA HB hm).mono ?_
  rintro e w1 ⟨rfl, hb⟩
  have A0 := At.later (v := .int .u64 f) (b := w.heap.size) (o := 0) ⟨by go_simp, by go_simp⟩ hb
  have A1 := At.later (v := .int .u64 n) (b := w.heap.size) (o := 1) ⟨by go_simp, by go_simp⟩ hb
  have G0 := At.later (v := .int .u64 g) (b := w.heap.size + 1) (o := 0) ⟨by go_simp, by go_simp⟩ hb
  have G1 := At.later (v := .int .u64 m) (b := w.heap.size + 1) (o := 1) ⟨by go_simp, by go_simp⟩ hb
  have a0 := A0.1
  have a1 := A1.1
  have b0 := G0.1
  have b1 := G1.1
  have hB1 : Below w.heap.size w w1 := bt (ba (ba (Below.refl _ _) _) _) hb
  have z := hB1.size
  have z0 : w.heap.size < w1.heap.size := A0.lt
  have z1 : w.heap.size + 1 < w1.heap.size := G0.lt
  have hown1 : (w1.alloc (.cells #[] 24)).ownsRow w1.heap.size 24 2 (.slice (some ⟨w1.heap.size, 0, none⟩) 0 0) 0 [] := owns_empty (World.alloc_heap_new _ _) (Nat.le_refl _)
  have hE : Below w1.heap.size w1 (w1.alloc (.cells #[] 24)) := (Below.refl _ _).alloc (Nat.le_refl _) _
  go_wp2_with fail
  have hown3 := hown1
  have hB3 := hE
  have hown3 := hown3.drew
  go_region_held3 (fun W => W.cell? ⟨w.heap.size, 0, none⟩ = some (.int .u64 f) ∧ W.cell? ⟨w.heap.size, 1, none⟩ = some (.int .u64 n) ∧ W.cell? ⟨w.heap.size + 1, 0, none⟩ = some (.int .u64 g) ∧ W.cell? ⟨w.heap.size + 1, 1, none⟩ = some (.int .u64 m) ∧ Below w1.heap.size w1 W) (first | assumption | exact five_of A0 A1 G0 G1 hB3.drew) (first | (go_at_call 13; refine (rlast_ok _ _ _ (by omega) (by omega) (by omega)).mono ?_; rintro e wL ⟨rfl, hbL⟩; have hSL := five_later hbL A0 A1 G0 G1 (by assumption); have hown3 := ownsRow_below hown3 hbL))
  all_goals
    have hsum : IntKind.u64.wrap (g + (m - 1) + 1) = g + (m - 1) + 1 := u64_in (by omega) (by omega)
    have hown3 := hown3.drew
    go_wp2_with fail
    go_region_held3 (fun W => W.cell? ⟨w.heap.size, 0, none⟩ = some (.int .u64 f) ∧ W.cell? ⟨w.heap.size, 1, none⟩ = some (.int .u64 n) ∧ W.cell? ⟨w.heap.size + 1, 0, none⟩ = some (.int .u64 g) ∧ W.cell? ⟨w.heap.size + 1, 1, none⟩ = some (.int .u64 m) ∧ Below w1.heap.size w1 W) (first | assumption | exact five_of A0 A1 G0 G1 hSL.2.2.2.2.drew | exact five_of A0 A1 G0 G1 hB5 | exact five_of A0 A1 G0 G1 (hSO.2.2.2.2.alloc (by have := hSO.2.2.2.2.size; omega) _)) (first | (go_at_call 13; refine (rlast_ok _ _ _ (by assumption) (by assumption) (by assumption)).mono ?_; rintro e wL ⟨rfl, hbL⟩; have hSL := five_later hbL A0 A1 G0 G1 (by assumption); have hown3 := ownsRow_below hown3 hbL) | (go_at_call 22; refine (of_ok _ _ _ (by omega) (by omega) (by omega) (by omega)).mono ?_; rintro e wO ⟨rfl, hbO⟩; have hSO := five_later hbO A0 A1 G0 G1 (by assumption); have hown3 := ownsRow_below hown3 hbO) | ((refine step_append_lies _ (by rfl) _ _ _ (by rfl) w1.heap.size 24 i1 _ 2 16 Try.underlying34 hi hz0 hz1 hz2 rfl (by omega) (.slice (some ⟨w1.heap.size, 0, none⟩) 0 0) 0 [] (by rfl) (ownsRow_below hown3 ((Below.refl _ _).alloc (Nat.le_refl _) _)) ⟨wO.heap.size, 0, none⟩ 1 1 [.int .u64 (g + (m - 1) + 1), .int .u64 (f + (n - 1) - (g + (m - 1) + 1) + 1)] (by rfl) (by rfl) (World.news_of_block (cs := #[.int .u64 (g + (m - 1) + 1), .int .u64 (f + (n - 1) - (g + (m - 1) + 1) + 1)]) (t := 24) (fr := (0, 0)) (World.alloc_heap_new wO _)) (by simp [Value.oneCell']) (by omega) (by unfold maxLen; omega) (by omega) (by have := hSO.2.2.2.2.size; simp; omega) (wO.heap.size + 1) (by simp) ?_; intro g5 cap5 w5 hown5 hgrow5 hat5 hlt5; have hB5 : Below w1.heap.size w1 w5 := (hSO.2.2.2.2.alloc (by have := hSO.2.2.2.2.size; omega) _).grown hgrow5 (by have := hSO.2.2.2.2.size; simp; omega) (ownsRow_from hown3))))
  all_goals
    go_wp2
    go_ret
    exact ⟨_, rfl, ownsRow_mono hown5 hB1.size, hB1.trans (hB5.mono hB1.size)⟩

set_option maxHeartbeats 2000000 in
set_option maxRecDepth 100000 in
theorem rless_nil (f n g m A B : Int) (w : World) (f0 : 0 ≤ f) (n1 : 1 ≤ n) (fn : f + n ≤ 18446744073709551616) (g0 : 0 ≤ g) (m1 : 1 ≤ m) (gm : g + m ≤ 18446744073709551616) (HA : Hid (A = max f g)) (HB : Hid (B = min (f + (n - 1)) (g + (m - 1)))) (hm : A ≤ B) (c1 : g ≤ f) (c2 : f + (n - 1) ≤ g + (m - 1)) :
    Calls Try.prog 18 #[.agg #[.int .u64 f, .int .u64 n], .agg #[.int .u64 g, .int .u64 m]] w (RowPost w []) := by
  go_enter Try.func18, Try.ntmps18
  go_wp2_with fail
  refine (meet_yes f n g m A B _ f0 n1 fn g0 m1 gm HA HB hm).mono ?_
  rintro e w1 ⟨rfl, hb⟩
  have A0 := At.later (v := .int .u64 f) (b := w.heap.size) (o := 0) ⟨by go_simp, by go_simp⟩ hb
  have A1 := At.later (v := .int .u64 n) (b := w.heap.size) (o := 1) ⟨by go_simp, by go_simp⟩ hb
  have G0 := At.later (v := .int .u64 g) (b := w.heap.size + 1) (o := 0) ⟨by go_simp, by go_simp⟩ hb
  have G1 := At.later (v := .int .u64 m) (b := w.heap.size + 1) (o := 1) ⟨by go_simp, by go_simp⟩ hb
  have a0 := A0.1
  have a1 := A1.1
  have b0 := G0.1
  have b1 := G1.1
  have hB1 : Below w.heap.size w w1 := bt (ba (ba (Below.refl _ _) _) _) hb
  have z := hB1.size
  have z0 : w.heap.size < w1.heap.size := A0.lt
  have z1 : w.heap.size + 1 < w1.heap.size := G0.lt
  have hown1 : (w1.alloc (.cells #[] 24)).ownsRow w1.heap.size 24 2 (.slice (some ⟨w1.heap.size, 0, none⟩) 0 0) 0 [] := owns_empty (World.alloc_heap_new _ _) (Nat.le_refl _)
  have hE : Below w1.heap.size w1 (w1.alloc (.cells #[] 24)) := (Below.refl _ _).alloc (Nat.le_refl _) _
  go_wp2_with fail
  have hown3 := hown1
  have hB3 := hE
  have hown3 := hown3.drew
  go_region_held3 (fun W => W.cell? ⟨w.heap.size, 0, none⟩ = some (.int .u64 f) ∧ W.cell? ⟨w.heap.size, 1, none⟩ = some (.int .u64 n) ∧ W.cell? ⟨w.heap.size + 1, 0, none⟩ = some (.int .u64 g) ∧ W.cell? ⟨w.heap.size + 1, 1, none⟩ = some (.int .u64 m) ∧ Below w1.heap.size w1 W) (first | assumption | exact five_of A0 A1 G0 G1 hB3.drew) (first | (go_at_call 13; refine (rlast_ok _ _ _ (by omega) (by omega) (by omega)).mono ?_; rintro e wL ⟨rfl, hbL⟩; have hSL := five_later hbL A0 A1 G0 G1 (by assumption); have hown3 := ownsRow_below hown3 hbL))
  all_goals
    go_wp2
    go_ret
    exact ⟨_, rfl, ownsRow_mono hown3 hB1.size, hB1.trans (hSL.2.2.2.2.mono hB1.size)⟩

end Go.Proofs.Ytkaenoejfdcokaa
