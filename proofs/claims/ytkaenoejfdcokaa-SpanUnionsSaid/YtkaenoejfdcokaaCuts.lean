/- SpanCuts is true of every two spans, and leaves its arguments as they were. -/
import Derived.Test.YtkaenoejfdcokaaFirst
import Derived.Test.YtkaenoejfdcokaaChecks
namespace Go.Proofs.Ytkaenoejfdcokaa
open Go.ChangeShapes Go.WideShapes Go.ChangeAt Go.RowKit Go.Joins

theorem first_ok {w : World} {v : Value} {L : List (Int × Int)} (h : Reads w v L) (hok : ∀ j (hj : j < L.length), OkP L[j]) :
    Calls Try.prog 16 #[v] w fun e w' => e = .returned (.int .i64 0) ∧ Below w.heap.size w w' := by
  by_cases h0 : L = []
  · subst h0
    obtain ⟨a, c, rfl⟩ := h.slice
    exact first_nil a c w
  · obtain ⟨hl, ⟨_, _, _, e⟩ | ⟨g, off, cap, rfl, hg, hc⟩⟩ := h
    · exact absurd e h0
    · exact first_cons L hl g off cap w hg hc hok
theorem first_err {w : World} {v : Value} {L : List (Int × Int)} (h : Reads w v L) (b : Nat) (hbl : b < L.length) (hok : ∀ j (hj : j < b), OkP (L[j]'(by omega))) (hn : NumP L[b]) (e : Int) (e1 : 1 ≤ e) (hbad : Bad L[b].1 L[b].2 e) :
    Calls Try.prog 16 #[v] w fun e' w' => e' = .returned (.int .i64 e) ∧ Below w.heap.size w w' := by
  obtain ⟨hl, ⟨_, _, _, e⟩ | ⟨g, off, cap, rfl, hg, hc⟩⟩ := h
  · subst e
    exact absurd hbl (Nat.not_lt_zero b)
  · exact first_bad L hl g off cap w hg hc b hbl hok hn e e1 hbad
theorem first_two {w : World} {v : Value} {f n g m e : Int} (h : Reads w v [(f, n), (g, m)]) (f0 : 0 ≤ f) (f1 : f ≤ 18446744073709551615) (n0 : 0 ≤ n) (n1 : n ≤ 18446744073709551615) (g0 : 0 ≤ g) (g1 : g ≤ 18446744073709551615) (m0 : 0 ≤ m) (m1 : m ≤ 18446744073709551615) (hb : Bad2 f n g m e) (e1 : 1 ≤ e) :
    Calls Try.prog 16 #[v] w fun e' w' => e' = .returned (.int .i64 e) ∧ Below w.heap.size w w' := by
  rcases hb with hb | ⟨h1, h2, hb⟩
  · exact first_err h 0 (by simp) (fun j hj => absurd hj (Nat.not_lt_zero j)) ⟨f0, f1, n0, n1⟩ e e1 hb
  · refine first_err h 1 (by simp) (fun j hj => ?_) ⟨g0, g1, m0, m1⟩ e e1 hb
    obtain rfl : j = 0 := by omega
    exact ⟨f0, h1, h2⟩
theorem ok_two {f n g m : Int} (f0 : 0 ≤ f) (n1 : 1 ≤ n) (fn : f + n ≤ 18446744073709551616) (g0 : 0 ≤ g) (m1 : 1 ≤ m) (gm : g + m ≤ 18446744073709551616) : ∀ j (hj : j < [(f, n), (g, m)].length), OkP [(f, n), (g, m)][j] := by
  intro j hj
  match j, hj with
  | 0, _ => exact ⟨f0, n1, fn⟩
  | 1, _ => exact ⟨g0, m1, gm⟩

set_option maxHeartbeats 4000000 in
theorem cuts_none (f n g m A B : Int) (w : World) (f0 : 0 ≤ f) (n1 : 1 ≤ n) (fn : f + n ≤ 18446744073709551616) (g0 : 0 ≤ g) (m1 : 1 ≤ m) (gm : g + m ≤ 18446744073709551616) (HA : Hid (A = max f g)) (HB : Hid (B = min (f + (n - 1)) (g + (m - 1)))) (hm : B < A) :
    Calls Try.prog 4 #[.agg #[.int .u64 f, .int .u64 n], .agg #[.int .u64 g, .int .u64 m]] w fun e w' => e = .returned (.bool true) ∧ Below w.heap.size w w' := by
  go_enter Try.func4, Try.ntmps4
  go_wp2_with fail
  refine (cut_none f n g m _ f0 n1 fn g0 m1 gm (by have := HA.out; have := HB.out; omega)).mono ?_
  rintro e w1 ⟨rfl, hb⟩
  have A0 := At.later (v := .int .u64 f) (b := w.heap.size) (o := 0) ⟨by go_simp, by go_simp⟩ hb
  have A1 := At.later (v := .int .u64 n) (b := w.heap.size) (o := 1) ⟨by go_simp, by go_simp⟩ hb
  have G0 := At.later (v := .int .u64 g) (b := w.heap.size + 1) (o := 0) ⟨by go_simp, by go_simp⟩ hb
  have G1 := At.later (v := .int .u64 m) (b := w.heap.size + 1) (o := 1) ⟨by go_simp, by go_simp⟩ hb
  have C0 := At.new w1 #[.int .u64 0, .int .u64 0] 24 (o := 0) (v := .int .u64 0) rfl
  have C1 := At.new w1 #[.int .u64 0, .int .u64 0] 24 (o := 1) (v := .int .u64 0) rfl
  have a0 := A0.1
  have a1 := A1.1
  have b0 := G0.1
  have b1 := G1.1
  have z0 : w.heap.size < w1.heap.size := A0.lt
  have z1 : w.heap.size + 1 < w1.heap.size := G0.lt
  have hB1 : Below w.heap.size w w1 := bt (ba (ba (Below.refl _ _) _) _) hb
  have hE1 : Below w1.heap.size w1 (w1.alloc (.cells #[.int .u64 0, .int .u64 0] 24)) := (Below.refl _ _).alloc (Nat.le_refl _) _
  go_wp2_with fail
  refine (less_any f n g m A B _ f0 n1 fn g0 m1 gm HA HB).mono ?_
  rintro e w2 ⟨v, rfl, ho, hb2⟩
  have hr2 := reads_owned ho
  obtain ⟨va, vc, rfl⟩ := hr2.slice
  have hE2 := bt hE1 hb2
  have a0 := (A0.later hE2).1
  have a1 := (A1.later hE2).1
  have b0 := (G0.later hE2).1
  have b1 := (G1.later hE2).1
  go_wp2_with fail
  refine (first_ok (reads_two w2 f n g m 24 2) (ok_two f0 n1 fn g0 m1 gm)).mono ?_
  rintro e w3 ⟨rfl, hb3⟩
  have hF3 := bt ((Below.refl _ w2).alloc (Nat.le_refl _) (.cells #[.int .u64 f, .int .u64 n, .int .u64 g, .int .u64 m] 24)) hb3
  have hE3 := bt hE2 hF3
  have hr3 := hr2.later hF3
  have a0 := (A0.later hE3).1
  have a1 := (A1.later hE3).1
  have b0 := (G0.later hE3).1
  have b1 := (G1.later hE3).1
  go_wp2_with fail
  refine (rless_any f n g m A B _ f0 n1 fn g0 m1 gm HA HB).mono ?_
  rintro e w4 ⟨u, rfl, ho4, hb4⟩
  have hr4 := reads_owned ho4
  obtain ⟨ua, uc, rfl⟩ := hr4.slice
  go_wp2_with fail
  refine (same_yes (hr3.later hb4) hr4).mono ?_
  rintro e w5 ⟨rfl, hb5⟩
  go_wp2_with fail
  refine (alive_any _).mono ?_
  rintro e w6 ⟨rfl, hb6⟩
  have hE6 := bt (bt (bt hE3 hb4) hb5) hb6
  have a0 := (A0.later hE6).1
  have a1 := (A1.later hE6).1
  have b0 := (G0.later hE6).1
  have b1 := (G1.later hE6).1
  have hC6 := bt (bt (bt (bt hb2 hF3) hb4) hb5) hb6
  go_wp2_with fail
  refine (meet_no f n g m A B _ f0 n1 fn g0 m1 gm HA HB hm).mono ?_
  rintro e w7 ⟨rfl, hb7⟩
  have d0 := (C0.later (bt hC6 hb7)).1
  have d1 := (C1.later (bt hC6 hb7)).1
  go_wp2
  go_ret
  exact ⟨by simp, bt hB1 (bt hE6 hb7)⟩

set_option maxHeartbeats 4000000 in
theorem cuts_meet (f n g m A B : Int) (w : World) (f0 : 0 ≤ f) (n1 : 1 ≤ n) (n2 : n ≤ 18446744073709551615) (m2 : m ≤ 18446744073709551615) (fn : f + n ≤ 18446744073709551616) (g0 : 0 ≤ g) (m1 : 1 ≤ m) (gm : g + m ≤ 18446744073709551616) (HA : Hid (A = max f g)) (HB : Hid (B = min (f + (n - 1)) (g + (m - 1)))) (hm : A ≤ B) :
    Calls Try.prog 4 #[.agg #[.int .u64 f, .int .u64 n], .agg #[.int .u64 g, .int .u64 m]] w fun e w' => e = .returned (.bool true) ∧ Below w.heap.size w w' := by
  go_enter Try.func4, Try.ntmps4
  go_wp2_with fail
  refine (cut_meet f n g m _ f0 n1 n2 fn g0 m1 gm (by have := HA.out; have := HB.out; omega)).mono ?_
  rintro e w1 ⟨rfl, hb⟩
  rw [← HA.out, ← HB.out]
  have A0 := At.later (v := .int .u64 f) (b := w.heap.size) (o := 0) ⟨by go_simp, by go_simp⟩ hb
  have A1 := At.later (v := .int .u64 n) (b := w.heap.size) (o := 1) ⟨by go_simp, by go_simp⟩ hb
  have G0 := At.later (v := .int .u64 g) (b := w.heap.size + 1) (o := 0) ⟨by go_simp, by go_simp⟩ hb
  have G1 := At.later (v := .int .u64 m) (b := w.heap.size + 1) (o := 1) ⟨by go_simp, by go_simp⟩ hb
  have C0 := At.new w1 #[.int .u64 A, .int .u64 (B - A + 1)] 24 (o := 0) (v := .int .u64 A) rfl
  have C1 := At.new w1 #[.int .u64 A, .int .u64 (B - A + 1)] 24 (o := 1) (v := .int .u64 (B - A + 1)) rfl
  have a0 := A0.1
  have a1 := A1.1
  have b0 := G0.1
  have b1 := G1.1
  have z0 : w.heap.size < w1.heap.size := A0.lt
  have z1 : w.heap.size + 1 < w1.heap.size := G0.lt
  have hB1 : Below w.heap.size w w1 := bt (ba (ba (Below.refl _ _) _) _) hb
  have hE1 : Below w1.heap.size w1 (w1.alloc (.cells #[.int .u64 A, .int .u64 (B - A + 1)] 24)) := (Below.refl _ _).alloc (Nat.le_refl _) _
  go_wp2_with fail
  refine (less_any f n g m A B _ f0 n1 fn g0 m1 gm HA HB).mono ?_
  rintro e w2 ⟨v, rfl, ho, hb2⟩
  have hr2 := reads_owned ho
  obtain ⟨va, vc, rfl⟩ := hr2.slice
  have hE2 := bt hE1 hb2
  have a0 := (A0.later hE2).1
  have a1 := (A1.later hE2).1
  have b0 := (G0.later hE2).1
  have b1 := (G1.later hE2).1
  go_wp2_with fail
  refine (first_ok (reads_two w2 f n g m 24 2) (ok_two f0 n1 fn g0 m1 gm)).mono ?_
  rintro e w3 ⟨rfl, hb3⟩
  have hF3 := bt ((Below.refl _ w2).alloc (Nat.le_refl _) (.cells #[.int .u64 f, .int .u64 n, .int .u64 g, .int .u64 m] 24)) hb3
  have hE3 := bt hE2 hF3
  have hr3 := hr2.later hF3
  have a0 := (A0.later hE3).1
  have a1 := (A1.later hE3).1
  have b0 := (G0.later hE3).1
  have b1 := (G1.later hE3).1
  go_wp2_with fail
  refine (rless_any f n g m A B _ f0 n1 fn g0 m1 gm HA HB).mono ?_
  rintro e w4 ⟨u, rfl, ho4, hb4⟩
  have hr4 := reads_owned ho4
  obtain ⟨ua, uc, rfl⟩ := hr4.slice
  go_wp2_with fail
  refine (same_yes (hr3.later hb4) hr4).mono ?_
  rintro e w5 ⟨rfl, hb5⟩
  go_wp2_with fail
  refine (alive_any _).mono ?_
  rintro e w6 ⟨rfl, hb6⟩
  have hE6 := bt (bt (bt hE3 hb4) hb5) hb6
  have a0 := (A0.later hE6).1
  have a1 := (A1.later hE6).1
  have b0 := (G0.later hE6).1
  have b1 := (G1.later hE6).1
  have hC6 := bt (bt (bt (bt hb2 hF3) hb4) hb5) hb6
  go_wp2_with fail
  refine (meet_yes f n g m A B _ f0 n1 fn g0 m1 gm HA HB hm).mono ?_
  rintro e w7 ⟨rfl, hb7⟩
  have D0 := C0.later (bt hC6 hb7)
  have D1 := C1.later (bt hC6 hb7)
  have hE7 := bt hE6 hb7
  go_wp2
  go_region_held3 (fun W => W.cell? ⟨w.heap.size, 0, none⟩ = some (.int .u64 f) ∧ W.cell? ⟨w.heap.size, 1, none⟩ = some (.int .u64 n) ∧ W.cell? ⟨w.heap.size + 1, 0, none⟩ = some (.int .u64 g) ∧ W.cell? ⟨w.heap.size + 1, 1, none⟩ = some (.int .u64 m) ∧ W.cell? ⟨w1.heap.size, 0, none⟩ = some (.int .u64 A) ∧ W.cell? ⟨w1.heap.size, 1, none⟩ = some (.int .u64 (B - A + 1))) (first | exact ⟨(A0.later hE7).1, (A1.later hE7).1, (G0.later hE7).1, (G1.later hE7).1, D0.1, D1.1⟩ | assumption) (first | (go_at_call 20; refine (rcut_any f n g m A B _ f0 n1 n2 fn g0 m1 m2 gm HA HB hm).mono ?_; rintro e w8 ⟨rfl, hb8⟩; have hE8 := bt hE7.drew hb8; have hS8 : w8.cell? ⟨w.heap.size, 0, none⟩ = some (.int .u64 f) ∧ w8.cell? ⟨w.heap.size, 1, none⟩ = some (.int .u64 n) ∧ w8.cell? ⟨w.heap.size + 1, 0, none⟩ = some (.int .u64 g) ∧ w8.cell? ⟨w.heap.size + 1, 1, none⟩ = some (.int .u64 m) ∧ w8.cell? ⟨w1.heap.size, 0, none⟩ = some (.int .u64 A) ∧ w8.cell? ⟨w1.heap.size, 1, none⟩ = some (.int .u64 (B - A + 1)) := ⟨(A0.later hE8).1, (A1.later hE8).1, (G0.later hE8).1, (G1.later hE8).1, (D0.drew.later hb8).1, (D1.drew.later hb8).1⟩))
  go_wp2
  go_ret
  exact ⟨by simp, bt hB1 hE8⟩

set_option maxHeartbeats 4000000 in
theorem cuts_bad (f n g m e : Int) (w : World) (f0 : 0 ≤ f) (f1 : f ≤ 18446744073709551615) (n0 : 0 ≤ n) (n1 : n ≤ 18446744073709551615) (g0 : 0 ≤ g) (g1 : g ≤ 18446744073709551615) (m0 : 0 ≤ m) (m1 : m ≤ 18446744073709551615) (h : Bad2 f n g m e) (e1 : 1 ≤ e) :
    Calls Try.prog 4 #[.agg #[.int .u64 f, .int .u64 n], .agg #[.int .u64 g, .int .u64 m]] w fun e' w' => e' = .returned (.bool true) ∧ Below w.heap.size w w' := by
  go_enter Try.func4, Try.ntmps4
  go_wp2_with fail
  refine (cut_bad f n g m e _ f0 f1 n1 g0 g1 m1 h e1).mono ?_
  rintro e' w1 ⟨rfl, hb⟩
  have A0 := At.later (v := .int .u64 f) (b := w.heap.size) (o := 0) ⟨by go_simp, by go_simp⟩ hb
  have A1 := At.later (v := .int .u64 n) (b := w.heap.size) (o := 1) ⟨by go_simp, by go_simp⟩ hb
  have G0 := At.later (v := .int .u64 g) (b := w.heap.size + 1) (o := 0) ⟨by go_simp, by go_simp⟩ hb
  have G1 := At.later (v := .int .u64 m) (b := w.heap.size + 1) (o := 1) ⟨by go_simp, by go_simp⟩ hb
  have C0 := At.new w1 #[.int .u64 0, .int .u64 0] 24 (o := 0) (v := .int .u64 0) rfl
  have C1 := At.new w1 #[.int .u64 0, .int .u64 0] 24 (o := 1) (v := .int .u64 0) rfl
  have a0 := A0.1
  have a1 := A1.1
  have b0 := G0.1
  have b1 := G1.1
  have z0 : w.heap.size < w1.heap.size := A0.lt
  have z1 : w.heap.size + 1 < w1.heap.size := G0.lt
  have hB1 : Below w.heap.size w w1 := bt (ba (ba (Below.refl _ _) _) _) hb
  have hE1 : Below w1.heap.size w1 (w1.alloc (.cells #[.int .u64 0, .int .u64 0] 24)) := (Below.refl _ _).alloc (Nat.le_refl _) _
  go_wp2_with fail
  refine (less_bad f n g m e _ f0 f1 n1 g0 g1 m1 h e1).mono ?_
  rintro e' w2 ⟨rfl, hb2⟩
  have hE2 := bt hE1 hb2
  have a0 := (A0.later hE2).1
  have a1 := (A1.later hE2).1
  have b0 := (G0.later hE2).1
  have b1 := (G1.later hE2).1
  go_wp2_with fail
  refine (first_two (reads_two w2 f n g m 24 2) f0 f1 n0 n1 g0 g1 m0 m1 h e1).mono ?_
  rintro e' w3 ⟨rfl, hb3⟩
  have hF3 := bt ((Below.refl _ w2).alloc (Nat.le_refl _) (.cells #[.int .u64 f, .int .u64 n, .int .u64 g, .int .u64 m] 24)) hb3
  go_wp2_with fail
  refine (alive_any _).mono ?_
  rintro e' w4 ⟨rfl, hb4⟩
  have d0 := (C0.later (bt (bt hb2 hF3) hb4)).1
  have d1 := (C1.later (bt (bt hb2 hF3) hb4)).1
  go_wp2
  go_ret
  exact ⟨by simp, bt hB1 (bt (bt hE2 hF3) hb4)⟩

theorem cuts_any (f n g m : Int) (w : World) (f0 : 0 ≤ f) (f1 : f ≤ 18446744073709551615) (n0 : 0 ≤ n) (n1 : n ≤ 18446744073709551615) (g0 : 0 ≤ g) (g1 : g ≤ 18446744073709551615) (m0 : 0 ≤ m) (m1 : m ≤ 18446744073709551615) :
    Calls Try.prog 4 #[.agg #[.int .u64 f, .int .u64 n], .agg #[.int .u64 g, .int .u64 m]] w fun e w' => e = .returned (.bool true) ∧ Below w.heap.size w w' := by
  rcases span_cases f n n0 with ⟨h1, h2⟩ | ⟨e, he, hb⟩
  · rcases span_cases g m m0 with ⟨k1, k2⟩ | ⟨e, he, hb⟩
    · by_cases hm : max f g ≤ min (f + (n - 1)) (g + (m - 1))
      · exact cuts_meet f n g m _ _ w f0 h1 n1 m1 h2 g0 k1 k2 rfl rfl hm
      · exact cuts_none f n g m _ _ w f0 h1 h2 g0 k1 k2 rfl rfl (by omega)
    · exact cuts_bad f n g m e w f0 f1 n0 n1 g0 g1 m0 m1 (.inr ⟨h1, h2, hb⟩) he
  · exact cuts_bad f n g m e w f0 f1 n0 n1 g0 g1 m0 m1 (.inl hb) he

/-- What a span is, opened. -/
theorem open_span {H : Type} {enc : TypeId × Value → H} {W : World} {base : Nat} {sp : Nat → Bool} {r : Reach} {b0 : Nat} {v : Value} {d : DataW H} {p : List MemPlace}
    (hv : Value.okWide Try.prog W r b0 24 v) (h : DataW.Trod enc Try.prog W base sp true 24 v d p) :
    ∃ a b : Int, v = .agg #[.int .u64 a, .int .u64 b] ∧ p = [] ∧ 0 ≤ a ∧ a ≤ 18446744073709551615 ∧ 0 ≤ b ∧ b ≤ 18446744073709551615 := by
  obtain ⟨c0, c1, y0, y1, m, rfl, rfl, rfl, hy0, hy1⟩ := open_agg2 Try.underlying24 (by kernel_rfl) cells24 hv h
  obtain ⟨a, e0, rfl, wa⟩ := DataW.trod_int Try.underlying22 hy0
  obtain ⟨b, e1, rfl, wb⟩ := DataW.trod_int Try.underlying22 hy1
  simp at e0 e1
  subst e0 e1
  obtain ⟨a0, a1⟩ := u64_bounds wa
  obtain ⟨b0, b1⟩ := u64_bounds wb
  exact ⟨_, _, rfl, rfl, a0, a1, b0, b1⟩

set_option maxHeartbeats 800000 in
set_option maxRecDepth 100000 in
theorem cuts_lifted (os : Os) (started : os.Started) (H : Type) (enc : TypeId × Value → H) :
    ReturnsInHanded {} Try.checked os 4 .any (Rows.spanCutsSpec.pre6 enc Try.prog Try.f4 Rows.spanCutsRow.domain false) (Rows.spanCutsSpec.post enc Try.prog Try.f4 false true false false) := by
  refine returnsInHanded_of_change (C := Try.checked) Try.own started (by kernel_rfl) Try.func4
    (ChangeSpec.witness6 (enc := enc) (C := Try.checked) false ⟨#[], #[.agg #[.int .u64 0, .int .u64 0], .agg #[.int .u64 0, .int .u64 0]], []⟩ 8 (by kernel_rfl) (by kernel_rfl) (by kernel_rfl) (by kernel_rfl)) ?_
  intro W base args ds gs before hval0 hW _ _
  have hval : ∀ (j : Nat) t v, Try.f4.params[j]? = some t → args[j]? = some v → Value.okWide Try.prog W .any base t v := hval0
  have hW' := hW
  obtain ⟨p, q, hA0, hV, rfl, _, _⟩ := hW
  have hA : DataW.TrodAll enc Try.prog W 0 (fun _ => true) true Try.f4.params.toList args.toList ds p := hA0
  rw [Try.params4] at hA hval
  obtain ⟨v0, v1, d0, d1, p0, p1, rfl, rfl, rfl, h0, h1⟩ := trodAll_two hA
  obtain ⟨rfl, rfl⟩ := trodVars_none hV
  obtain ⟨f, n, rfl, rfl, f0, f1, n0, n1⟩ := open_span (hval 0 24 v0 rfl rfl) h0
  obtain ⟨g, m, rfl, rfl, g0, g1, m0, m1⟩ := open_span (hval 1 24 v1 rfl rfl) h1
  clear hA0 hval0
  simp only [List.append_nil] at hW'
  refine (cuts_any f n g m W f0 f1 n0 n1 g0 g1 m0 m1).mono fun e W' ⟨he, hn⟩ => ?_
  subst he
  refine ⟨_, rfl, ?_⟩
  refine ⟨_, _, _, [], [], [], hW', ?_, trodAll_mk2 (Below.trod Try.laidOut (by kernel_rfl) (of_decide_eq_true (by kernel_rfl)) h0 hn (fun x hx => by simp at hx)) (Below.trod Try.laidOut (by kernel_rfl) (of_decide_eq_true (by kernel_rfl)) h1 hn (fun x hx => by simp at hx)), rfl, hn.frame _, fun h => by cases h⟩
  exact trodAll_mk1 (shut_bool Try.underlying4 true)

/-- SpanCuts, for every two spans. -/
theorem cuts_holds : Rows.SpanCutsSaid :=
  OpenClaim.holds_of_wide 4 Try.f4 rfl rfl rfl rfl rfl rfl rfl ⟨rfl, rfl, rfl, rfl, rfl⟩ rfl rfl rfl rfl rfl (by kernel_rfl) Try.func4 (by kernel_rfl)
    (of_decide_eq_true (by kernel_rfl)) (by unfold Func.isWrapper; rw [if_neg (of_decide_eq_false (by kernel_rfl))]; exact ⟨rfl, rfl⟩)
    (fun os started H enc _ => cuts_lifted os started H enc)
#print axioms cuts_holds

end Go.Proofs.Ytkaenoejfdcokaa
