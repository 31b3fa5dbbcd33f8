/- SpanChecks is true of every span, and leaves its argument as it was. -/
import Derived.Test.YtkaenoejfdcokaaSame
import Derived.ProofKit
import Derived.Lib.SmallJoins
namespace Go.Proofs.Ytkaenoejfdcokaa
open Go.ChangeShapes Go.WideShapes Go.ChangeAt Go.RowKit Go.Joins

set_option maxHeartbeats 1000000 in
theorem checks_ok (f n : Int) (w : World) (f0 : 0 ≤ f) (n1 : 1 ≤ n) (fn : f + n ≤ 18446744073709551616) :
    Calls Try.prog 3 #[.agg #[.int .u64 f, .int .u64 n]] w fun e w' => e = .returned (.bool true) ∧ Below w.heap.size w w' := by
  go_enter Try.func3, Try.ntmps3
  go_wp2_with fail
  refine (last_ok f n _ f0 n1 fn).mono ?_
  rintro e w1 ⟨rfl, hb⟩
  have A0 := At.later (v := .int .u64 f) (b := w.heap.size) (o := 0) ⟨by go_simp, by go_simp⟩ hb
  have A1 := At.later (v := .int .u64 n) (b := w.heap.size) (o := 1) ⟨by go_simp, by go_simp⟩ hb
  obtain ⟨a0, _⟩ := A0
  obtain ⟨a1, _⟩ := A1
  go_wp2_with fail
  refine (rcheck_ok f n _ f0 n1 fn).mono ?_
  rintro e w2 ⟨rfl, hb2⟩
  go_wp2_with fail
  refine (alive_any _).mono ?_
  rintro e w3 ⟨rfl, hb3⟩
  obtain ⟨c0, _⟩ := (At.later ⟨a0, by assumption⟩ hb2).later hb3
  obtain ⟨c1, _⟩ := (At.later ⟨a1, by assumption⟩ hb2).later hb3
  go_wp2_with fail
  refine (check_ok f n _ f0 n1 fn).mono ?_
  rintro e w4 ⟨rfl, hb4⟩
  obtain ⟨d0, _⟩ := (At.later ⟨c0, by assumption⟩ hb4)
  obtain ⟨d1, _⟩ := (At.later ⟨c1, by assumption⟩ hb4)
  go_wp2_with fail
  refine (rlast_ok f n _ f0 n1 fn).mono ?_
  rintro e w5 ⟨rfl, hb5⟩
  go_wp2
  go_ret
  exact ⟨rfl, bt (bt (bt (bt (bt (ba (Below.refl _ _) _) hb) hb2) hb3) hb4) hb5⟩

set_option maxHeartbeats 1000000 in
theorem checks_bad (f n e : Int) (w : World) (f0 : 0 ≤ f) (f1 : f ≤ 18446744073709551615) (n1 : n ≤ 18446744073709551615) (h : Bad f n e) (e1 : 1 ≤ e) :
    Calls Try.prog 3 #[.agg #[.int .u64 f, .int .u64 n]] w fun e w' => e = .returned (.bool true) ∧ Below w.heap.size w w' := by
  go_enter Try.func3, Try.ntmps3
  go_wp2_with fail
  refine (last_bad f n e _ f0 f1 n1 h e1).mono ?_
  rintro e' w1 ⟨rfl, hb⟩
  obtain ⟨a0, _⟩ := At.later (v := .int .u64 f) (b := w.heap.size) (o := 0) ⟨by go_simp, by go_simp⟩ hb
  obtain ⟨a1, _⟩ := At.later (v := .int .u64 n) (b := w.heap.size) (o := 1) ⟨by go_simp, by go_simp⟩ hb
  go_wp2_with fail
  refine (rcheck_bad f n e _ f0 f1 n1 h).mono ?_
  rintro e' w2 ⟨rfl, hb2⟩
  go_wp2_with fail
  refine (alive_any _).mono ?_
  rintro e' w3 ⟨rfl, hb3⟩
  obtain ⟨c0, _⟩ := (At.later ⟨a0, by assumption⟩ hb2).later hb3
  obtain ⟨c1, _⟩ := (At.later ⟨a1, by assumption⟩ hb2).later hb3
  go_wp2_with fail
  refine (check_bad f n e _ f0 f1 n1 h).mono ?_
  rintro e' w4 ⟨rfl, hb4⟩
  go_wp2
  go_ret
  exact ⟨by simp, bt (bt (bt (bt (ba (Below.refl _ _) _) hb) hb2) hb3) hb4⟩

theorem span_cases (f n : Int) (n0 : 0 ≤ n) : (1 ≤ n ∧ f + n ≤ 18446744073709551616) ∨ ∃ e, 1 ≤ e ∧ Bad f n e := by
  by_cases h : n = 0
  · exact .inr ⟨1, by omega, .inl ⟨h, rfl⟩⟩
  · by_cases h' : f + n ≤ 18446744073709551616
    · exact .inl ⟨by omega, h'⟩
    · exact .inr ⟨2, by omega, .inr ⟨by omega, by omega, rfl⟩⟩
theorem checks_any (f n : Int) (w : World) (f0 : 0 ≤ f) (f1 : f ≤ 18446744073709551615) (n0 : 0 ≤ n) (n1 : n ≤ 18446744073709551615) :
    Calls Try.prog 3 #[.agg #[.int .u64 f, .int .u64 n]] w fun e w' => e = .returned (.bool true) ∧ Below w.heap.size w w' := by
  rcases span_cases f n n0 with ⟨h1, h2⟩ | ⟨e, he, hb⟩
  · exact checks_ok f n w f0 h1 h2
  · exact checks_bad f n e w f0 f1 n1 hb he

theorem Try.own : ownKnob Try.prog.godebug = none := by kernel_rfl
theorem Try.laidOut : laidOutB Try.prog = true := by kernel_rfl
theorem cells24 : Try.prog.cellsOf 24 = 2 := by kernel_rfl
theorem u64_bounds {n : Int} (h : (Lit.int .u64 n).wf = true) : 0 ≤ n ∧ n ≤ 18446744073709551615 := by
  simp [Lit.wf] at h
  exact h

set_option maxHeartbeats 800000 in
set_option maxRecDepth 100000 in
theorem checks_lifted (os : Os) (started : os.Started) (H : Type) (enc : TypeId × Value → H) :
    ReturnsInHanded {} Try.checked os 3 .any (Rows.spanChecksSpec.pre6 enc Try.prog Try.f3 Rows.spanChecksRow.domain false) (Rows.spanChecksSpec.post enc Try.prog Try.f3 false true false false) := by
  refine returnsInHanded_of_change (C := Try.checked) Try.own started (by kernel_rfl) Try.func3
    (ChangeSpec.witness6 (enc := enc) (C := Try.checked) false ⟨#[], #[.agg #[.int .u64 0, .int .u64 0]], []⟩ 8 (by kernel_rfl) (by kernel_rfl) (by kernel_rfl) (by kernel_rfl)) ?_
  intro W base args ds gs before hval0 hW _ _
  have hval : ∀ (j : Nat) t v, Try.f3.params[j]? = some t → args[j]? = some v → Value.okWide Try.prog W .any base t v := hval0
  have hW' := hW
  obtain ⟨p, q, hA0, hV, rfl, _, _⟩ := hW
  have hA : DataW.TrodAll enc Try.prog W 0 (fun _ => true) true Try.f3.params.toList args.toList ds p := hA0
  rw [Try.params3] at hA hval
  obtain ⟨v0, d0, rfl, rfl, h0⟩ := trodAll_one hA
  obtain ⟨rfl, rfl⟩ := trodVars_none hV
  have h0k := h0
  obtain ⟨c0, c1, y0, y1, m, rfl, rfl, rfl, hy0, hy1⟩ := open_agg2 Try.underlying24 (by kernel_rfl) cells24 (hval 0 24 v0 rfl rfl) h0
  obtain ⟨a, e0, rfl, wa⟩ := DataW.trod_int Try.underlying22 hy0
  obtain ⟨b, e1, rfl, wb⟩ := DataW.trod_int Try.underlying22 hy1
  simp at e0 e1
  subst e0 e1
  clear hA0 hval0
  simp only [List.append_nil] at hW'
  obtain ⟨a0, a1⟩ := u64_bounds wa
  obtain ⟨b0, b1⟩ := u64_bounds wb
  refine (checks_any a b W a0 a1 b0 b1).mono fun e W' ⟨he, hn⟩ => ?_
  subst he
  refine ⟨_, rfl, ?_⟩
  refine ⟨_, _, _, [], [], [], hW', ?_, trodAll_mk1 (Below.trod Try.laidOut (by kernel_rfl) (of_decide_eq_true (by kernel_rfl)) h0k hn (fun x hx => by simp at hx)), rfl, hn.frame _, fun h => by cases h⟩
  exact trodAll_mk1 (shut_bool Try.underlying4 true)

/-- SpanChecks, for every span. -/
theorem checks_holds : Rows.SpanChecksSaid :=
  OpenClaim.holds_of_wide 3 Try.f3 rfl rfl rfl rfl rfl rfl rfl ⟨rfl, rfl, rfl, rfl, rfl⟩ rfl rfl rfl rfl rfl (by kernel_rfl) Try.func3 (by kernel_rfl)
    (of_decide_eq_true (by kernel_rfl)) (by unfold Func.isWrapper; rw [if_neg (of_decide_eq_false (by kernel_rfl))]; exact ⟨rfl, rfl⟩)
    (fun os started H enc _ => checks_lifted os started H enc)
#print axioms checks_holds
end Go.Proofs.Ytkaenoejfdcokaa
