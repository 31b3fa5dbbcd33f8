/- SpanCovers is true of every span and every size, and leaves its arguments as they were. -/
import Derived.Test.YtkaenoejfdcokaaCover
import Derived.Test.YtkaenoejfdcokaaChecks
import Derived.Lib.Hide
namespace Go.Proofs.Ytkaenoejfdcokaa
open Go.ChangeShapes Go.WideShapes Go.ChangeAt Go.RowKit Go.Joins

set_option maxHeartbeats 2000000 in
theorem covers_ok (f n s p q : Int) (w : World) (f0 : 0 ≤ f) (n1 : 1 ≤ n) (n2 : n ≤ 18446744073709551615) (fn : f + n ≤ 18446744073709551616) (s1 : 1 ≤ s) (HQ : Hid (Quos f n s p q)) :
    Calls Try.prog 5 #[.agg #[.int .u64 f, .int .u64 n], .int .u64 s] w fun e w' => e = .returned (.bool true) ∧ Below w.heap.size w w' := by
  have hs0 : s ≠ 0 := by omega
  obtain ⟨k1, k2, k3, k4⟩ := quos_facts HQ.out f0 n1 n2 fn s1
  have HK : Hid (p = 0 → q ≠ 18446744073709551615) := k4
  clear k4
  have hp : IntKind.u64.wrap (f.tdiv s) = p := quos_p HQ.out f0 k1 (by omega)
  have hq : IntKind.u64.wrap ((f + (n - 1)).tdiv s) = q := quos_q HQ.out (by omega) (by omega) (by omega)
  have HP := Lib.hid hp
  have HR := Lib.hid hq
  clear hp hq
  go_enter Try.func5, Try.ntmps5
  go_wp2_with fail
  refine (cover_ok f n s p q _ f0 n1 n2 fn s1 HQ).mono ?_
  rintro e w1 ⟨rfl, hb⟩
  have A0 := At.later (v := .int .u64 f) (b := w.heap.size) (o := 0) ⟨by go_simp, by go_simp⟩ hb
  have A1 := At.later (v := .int .u64 n) (b := w.heap.size) (o := 1) ⟨by go_simp, by go_simp⟩ hb
  have C0 := At.new w1 #[.int .u64 p, .int .u64 (q - p + 1)] 24 (o := 0) (v := .int .u64 p) rfl
  have C1 := At.new w1 #[.int .u64 p, .int .u64 (q - p + 1)] 24 (o := 1) (v := .int .u64 (q - p + 1)) rfl
  have a0 := A0.1
  have a1 := A1.1
  have z0 : w.heap.size < w1.heap.size := by have := hb.size; simp at this; omega
  have B0 := A0.alloc (.cells #[.int .u64 p, .int .u64 (q - p + 1)] 24)
  have B1 := A1.alloc (.cells #[.int .u64 p, .int .u64 (q - p + 1)] 24)
  go_wp2_with fail
  refine (rcheck_ok f n _ f0 n1 fn).mono ?_
  rintro e w2 ⟨rfl, hb2⟩
  have B2 := B0.later hb2
  have B3 := B1.later hb2
  have C2 := C0.later hb2
  have C3 := C1.later hb2
  have hp := HP.out
  have hq := HR.out
  go_wp2_with fail
  go_region_held3 (fun W => W.cell? ⟨w.heap.size, 0, none⟩ = some (.int .u64 f) ∧ W.cell? ⟨w.heap.size, 1, none⟩ = some (.int .u64 n)) (first | exact ⟨B2.1, B3.1⟩ | assumption) (first | (go_at_call 13; refine (rlast_ok f n _ f0 n1 fn).mono ?_; rintro e w3 ⟨rfl, hb3⟩; have hS : w3.cell? ⟨w.heap.size, 0, none⟩ = some (.int .u64 f) ∧ w3.cell? ⟨w.heap.size, 1, none⟩ = some (.int .u64 n) := ⟨(B2.drew.later hb3).1, (B3.drew.later hb3).1⟩))
  clear hp hq
  have C4 := C2.drew.later hb3
  have C5 := C3.drew.later hb3
  by_cases hp0 : p = 0
  · have hq0 : (q == 18446744073709551615) = false := by simpa using HK.out hp0
    have hpb : (p == 0) = true := by simpa using hp0
    clear hp0
    go_wp2_with fail
    go_region_held3 (fun W => W.cell? ⟨w1.heap.size, 0, none⟩ = some (.int .u64 p) ∧ W.cell? ⟨w1.heap.size, 1, none⟩ = some (.int .u64 (q - p + 1))) (first | exact ⟨C4.1, C5.1⟩ | assumption) (first | (go_at_call 11; refine (alive_any _).mono ?_; rintro e w4 ⟨rfl, hb4⟩; have hS4 : w4.cell? ⟨w1.heap.size, 0, none⟩ = some (.int .u64 p) ∧ w4.cell? ⟨w1.heap.size, 1, none⟩ = some (.int .u64 (q - p + 1)) := ⟨(C4.drew.later hb4).1, (C5.drew.later hb4).1⟩) | (go_at_call 22; refine (of_ok p q _ k1 k2 k3 HK.out).mono ?_; rintro e w5 ⟨rfl, hb5⟩; have hS5 : w5.cell? ⟨w1.heap.size, 0, none⟩ = some (.int .u64 p) ∧ w5.cell? ⟨w1.heap.size, 1, none⟩ = some (.int .u64 (q - p + 1)) := ⟨cell_later hb5 hS4.1, cell_later hb5 hS4.2⟩))
    go_wp2
    go_ret
    exact ⟨rfl, bt (bt (bt (bt (ba (bt (ba (Below.refl _ _) _) hb) _) hb2).drew hb3).drew hb4) hb5⟩
  · go_wp2_with fail
    go_region_held3 (fun W => W.cell? ⟨w1.heap.size, 0, none⟩ = some (.int .u64 p) ∧ W.cell? ⟨w1.heap.size, 1, none⟩ = some (.int .u64 (q - p + 1))) (first | exact ⟨C4.1, C5.1⟩ | assumption) (first | (go_at_call 11; refine (alive_any _).mono ?_; rintro e w4 ⟨rfl, hb4⟩; have hS4 : w4.cell? ⟨w1.heap.size, 0, none⟩ = some (.int .u64 p) ∧ w4.cell? ⟨w1.heap.size, 1, none⟩ = some (.int .u64 (q - p + 1)) := ⟨(C4.drew.later hb4).1, (C5.drew.later hb4).1⟩) | (go_at_call 22; refine (of_ok p q _ k1 k2 k3 HK.out).mono ?_; rintro e w5 ⟨rfl, hb5⟩; have hS5 : w5.cell? ⟨w1.heap.size, 0, none⟩ = some (.int .u64 p) ∧ w5.cell? ⟨w1.heap.size, 1, none⟩ = some (.int .u64 (q - p + 1)) := ⟨cell_later hb5 hS4.1, cell_later hb5 hS4.2⟩))
    go_wp2
    go_ret
    exact ⟨rfl, bt (bt (bt (bt (ba (bt (ba (Below.refl _ _) _) hb) _) hb2).drew hb3).drew hb4) hb5⟩

set_option maxHeartbeats 2000000 in
theorem covers_zero (f n : Int) (w : World) (f0 : 0 ≤ f) (n1 : 1 ≤ n) (fn : f + n ≤ 18446744073709551616) :
    Calls Try.prog 5 #[.agg #[.int .u64 f, .int .u64 n], .int .u64 0] w fun e w' => e = .returned (.bool true) ∧ Below w.heap.size w w' := by
  go_enter Try.func5, Try.ntmps5
  go_wp2_with fail
  refine (cover_zero f n _ f0 n1 fn).mono ?_
  rintro e w1 ⟨rfl, hb⟩
  have A0 := At.later (v := .int .u64 f) (b := w.heap.size) (o := 0) ⟨by go_simp, by go_simp⟩ hb
  have A1 := At.later (v := .int .u64 n) (b := w.heap.size) (o := 1) ⟨by go_simp, by go_simp⟩ hb
  have C0 := At.new w1 #[.int .u64 0, .int .u64 0] 24 (o := 0) (v := .int .u64 0) rfl
  have C1 := At.new w1 #[.int .u64 0, .int .u64 0] 24 (o := 1) (v := .int .u64 0) rfl
  have a0 := A0.1
  have a1 := A1.1
  have z0 : w.heap.size < w1.heap.size := by have := hb.size; simp at this; omega
  go_wp2_with fail
  refine (rcheck_ok f n _ f0 n1 fn).mono ?_
  rintro e w2 ⟨rfl, hb2⟩
  have C2 := C0.later hb2
  have C3 := C1.later hb2
  go_wp2_with fail
  refine (alive_any _).mono ?_
  rintro e w3 ⟨rfl, hb3⟩
  have c0 := (C2.later hb3).1
  have c1 := (C3.later hb3).1
  go_wp2
  go_ret
  exact ⟨rfl, bt (bt (ba (bt (ba (Below.refl _ _) _) hb) _) hb2) hb3⟩

set_option maxHeartbeats 2000000 in
theorem covers_bad (f n s e : Int) (w : World) (f0 : 0 ≤ f) (f1 : f ≤ 18446744073709551615) (n1 : n ≤ 18446744073709551615) (h : Bad f n e) (e1 : 1 ≤ e) :
    Calls Try.prog 5 #[.agg #[.int .u64 f, .int .u64 n], .int .u64 s] w fun e w' => e = .returned (.bool true) ∧ Below w.heap.size w w' := by
  go_enter Try.func5, Try.ntmps5
  go_wp2_with fail
  refine (cover_bad f n s e _ f0 f1 n1 h e1).mono ?_
  rintro e' w1 ⟨rfl, hb⟩
  have A0 := At.later (v := .int .u64 f) (b := w.heap.size) (o := 0) ⟨by go_simp, by go_simp⟩ hb
  have A1 := At.later (v := .int .u64 n) (b := w.heap.size) (o := 1) ⟨by go_simp, by go_simp⟩ hb
  have C0 := At.new w1 #[.int .u64 0, .int .u64 0] 24 (o := 0) (v := .int .u64 0) rfl
  have C1 := At.new w1 #[.int .u64 0, .int .u64 0] 24 (o := 1) (v := .int .u64 0) rfl
  have a0 := A0.1
  have a1 := A1.1
  have z0 : w.heap.size < w1.heap.size := by have := hb.size; simp at this; omega
  go_wp2_with fail
  refine (rcheck_bad f n e _ f0 f1 n1 h).mono ?_
  rintro e' w2 ⟨rfl, hb2⟩
  have C2 := C0.later hb2
  have C3 := C1.later hb2
  have he : (e == 0) = false := by simp; omega
  go_wp2_with fail
  refine (alive_any _).mono ?_
  rintro e' w3 ⟨rfl, hb3⟩
  have c0 := (C2.later hb3).1
  have c1 := (C3.later hb3).1
  go_wp2
  go_ret
  exact ⟨by simp, bt (bt (ba (bt (ba (Below.refl _ _) _) hb) _) hb2) hb3⟩

theorem covers_any (f n s : Int) (w : World) (f0 : 0 ≤ f) (f1 : f ≤ 18446744073709551615) (n0 : 0 ≤ n) (n1 : n ≤ 18446744073709551615) (s0 : 0 ≤ s) :
    Calls Try.prog 5 #[.agg #[.int .u64 f, .int .u64 n], .int .u64 s] w fun e w' => e = .returned (.bool true) ∧ Below w.heap.size w w' := by
  rcases span_cases f n n0 with ⟨h1, h2⟩ | ⟨e, he, hb⟩
  · by_cases hs : s = 0
    · subst hs
      exact covers_zero f n w f0 h1 h2
    · exact covers_ok f n s _ _ w f0 h1 n1 h2 (by omega) ⟨rfl, rfl⟩
  · exact covers_bad f n s e w f0 f1 n1 hb he

set_option maxHeartbeats 800000 in
set_option maxRecDepth 100000 in
theorem covers_lifted (os : Os) (started : os.Started) (H : Type) (enc : TypeId × Value → H) :
    ReturnsInHanded {} Try.checked os 5 .any (Rows.spanCoversSpec.pre6 enc Try.prog Try.f5 Rows.spanCoversRow.domain false) (Rows.spanCoversSpec.post enc Try.prog Try.f5 false true false false) := by
  refine returnsInHanded_of_change (C := Try.checked) Try.own started (by kernel_rfl) Try.func5
    (ChangeSpec.witness6 (enc := enc) (C := Try.checked) false ⟨#[], #[.agg #[.int .u64 0, .int .u64 0], .int .u64 0], []⟩ 8 (by kernel_rfl) (by kernel_rfl) (by kernel_rfl) (by kernel_rfl)) ?_
  intro W base args ds gs before hval0 hW _ _
  have hval : ∀ (j : Nat) t v, Try.f5.params[j]? = some t → args[j]? = some v → Value.okWide Try.prog W .any base t v := hval0
  have hW' := hW
  obtain ⟨p, q, hA0, hV, rfl, _, _⟩ := hW
  have hA : DataW.TrodAll enc Try.prog W 0 (fun _ => true) true Try.f5.params.toList args.toList ds p := hA0
  rw [Try.params5] at hA hval
  obtain ⟨v0, v1, d0, d1, p0, p1, rfl, rfl, rfl, h0, h1⟩ := trodAll_two hA
  obtain ⟨rfl, rfl⟩ := trodVars_none hV
  have h0k := h0
  obtain ⟨c0, c1, y0, y1, m, rfl, rfl, rfl, hy0, hy1⟩ := open_agg2 Try.underlying24 (by kernel_rfl) cells24 (hval 0 24 v0 rfl rfl) h0
  obtain ⟨a, e0, rfl, wa⟩ := DataW.trod_int Try.underlying22 hy0
  obtain ⟨b, e1, rfl, wb⟩ := DataW.trod_int Try.underlying22 hy1
  simp at e0 e1
  subst e0 e1
  obtain ⟨s, rfl, rfl, rfl, ws⟩ := open_int Try.underlying22 (hval 1 22 v1 rfl rfl) h1
  clear hA0 hval0
  simp only [List.append_nil] at hW'
  obtain ⟨a0, a1⟩ := u64_bounds wa
  obtain ⟨b0, b1⟩ := u64_bounds wb
  obtain ⟨s0, _⟩ := u64_bounds ws
  refine (covers_any a b s W a0 a1 b0 b1 s0).mono fun e W' ⟨he, hn⟩ => ?_
  subst he
  refine ⟨_, rfl, ?_⟩
  refine ⟨_, _, _, [], [], [], hW', ?_, trodAll_mk2 (Below.trod Try.laidOut (by kernel_rfl) (of_decide_eq_true (by kernel_rfl)) h0k hn (fun x hx => by simp at hx)) (shut_int Try.underlying22 ws), rfl, hn.frame _, fun h => by cases h⟩
  exact trodAll_mk1 (shut_bool Try.underlying4 true)

/-- SpanCovers, for every span and every size. -/
theorem covers_holds : Rows.SpanCoversSaid :=
  OpenClaim.holds_of_wide 5 Try.f5 rfl rfl rfl rfl rfl rfl rfl ⟨rfl, rfl, rfl, rfl, rfl⟩ rfl rfl rfl rfl rfl (by kernel_rfl) Try.func5 (by kernel_rfl)
    (of_decide_eq_true (by kernel_rfl)) (by unfold Func.isWrapper; rw [if_neg (of_decide_eq_false (by kernel_rfl))]; exact ⟨rfl, rfl⟩)
    (fun os started H enc _ => covers_lifted os started H enc)
#print axioms covers_holds
end Go.Proofs.Ytkaenoejfdcokaa
