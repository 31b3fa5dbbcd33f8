/- GhashMuls: any two blocks' product is the polynomials' one, and what is left of it; else it is refused. For every two texts. -/
import Derived.Test.YtlfghagidajpeaaGRMul
import Derived.Test.YtlfghagidajpeaaGCut
import Derived.Test.YtlfghagidajpeaaBase0
namespace Go.Proofs.Ytlfghagidajpeaa
open Go.ChangeShapes Go.WideShapes Go.ChangeAt Go.RowKit Go.Joins Go.Deep

set_option maxRecDepth 100000 in
set_option maxHeartbeats 2000000 in
theorem muls_any (a b : List UInt8) (w : World) (ha : (a.length : Int) ≤ 9223372036854775807) (hb : (b.length : Int) ≤ 9223372036854775807) :
    Calls Try.prog 3 #[.string ⟨a.toArray⟩, .string ⟨b.toArray⟩] w fun e w' => e = .returned (.bool true) ∧ Below w.heap.size w w' := by
  have HCA := Lib.hid (fun W => gcut_any a W ha)
  have HCB := Lib.hid (fun W => gcut_any b W hb)
  clear ha hb
  generalize a.take 80 = x at HCA
  generalize b.take 80 = y at HCB
  have HAL := Lib.hid alive_any
  have hx := size_of x
  have hy := size_of y
  by_cases h : x.length = 16 ∧ y.length = 16
  · obtain ⟨h1, h2⟩ := h
    have HM := Lib.hid (fun W => mul_yes x y W h1 h2)
    have HR := Lib.hid (fun W => rMul_any x y W h1 h2)
    rw [h1] at hx
    rw [h2] at hy
    generalize mulL x y = E at HM HR
    clear h1 h2
    go_enter Try.func3, Try.ntmps3
    go_wp2_with fail
    refine (HCA.out _).mono ?_
    rintro e w' ⟨rfl, rfl⟩
    go_wp2_with fail
    refine (HCB.out _).mono ?_
    rintro e w' ⟨rfl, rfl⟩
    go_wp2_with fail
    refine (HM.out _).mono ?_
    rintro e w1 ⟨rfl, hb1⟩
    go_wp2_with fail
    refine (HAL.out _).mono ?_
    rintro e w2 ⟨rfl, hb2⟩
    go_wp2_with fail
    refine (HR.out _).mono ?_
    rintro e w3 ⟨rfl, hb3⟩
    go_wp2
    go_ret
    exact ⟨rfl, bt (bt hb1 hb2) hb3⟩
  · have HM := Lib.hid (fun W => mul_no x y W h)
    by_cases h1 : x.length = 16
    · have h2 : (y.length == 16) = false := by simp; intro h2; exact h ⟨h1, h2⟩
      have h3 : ((y.length : Int) == 16) = false := by
        have : ¬ y.length = 16 := fun h2 => h ⟨h1, h2⟩
        simp; omega
      rw [h1] at hx
      clear h h1
      go_enter Try.func3, Try.ntmps3
      go_wp2_with fail
      refine (HCA.out _).mono ?_
      rintro e w' ⟨rfl, rfl⟩
      go_wp2_with fail
      refine (HCB.out _).mono ?_
      rintro e w' ⟨rfl, rfl⟩
      go_wp2_with fail
      refine (HM.out _).mono ?_
      rintro e w1 ⟨rfl, hb1⟩
      go_wp2_with fail
      refine (HAL.out _).mono ?_
      rintro e w2 ⟨rfl, hb2⟩
      go_wp2
      go_ret
      exact ⟨rfl, bt hb1 hb2⟩
    · have h2 : (x.length == 16) = false := by simp; exact h1
      have h3 : ((x.length : Int) == 16) = false := by simp; omega
      clear h h1
      go_enter Try.func3, Try.ntmps3
      go_wp2_with fail
      refine (HCA.out _).mono ?_
      rintro e w' ⟨rfl, rfl⟩
      go_wp2_with fail
      refine (HCB.out _).mono ?_
      rintro e w' ⟨rfl, rfl⟩
      go_wp2_with fail
      refine (HM.out _).mono ?_
      rintro e w1 ⟨rfl, hb1⟩
      go_wp2_with fail
      refine (HAL.out _).mono ?_
      rintro e w2 ⟨rfl, hb2⟩
      go_wp2
      go_ret
      exact ⟨rfl, bt hb1 hb2⟩

set_option maxHeartbeats 1000000 in
set_option maxRecDepth 100000 in
theorem muls_lifted (os : Os) (started : os.Started) (H : Type) (enc : TypeId × Value → H) :
    ReturnsInHanded {} Try.checked os 3 .any (Rows.ghashMulsSpec.pre6 enc Try.prog Try.f3 Rows.ghashMulsRow.domain false) (Rows.ghashMulsSpec.post enc Try.prog Try.f3 false true false false) := by
  refine returnsInHanded_of_change (C := Try.checked) Try.own started (by kernel_rfl) Try.func3
    (ChangeSpec.witness6 (enc := enc) (C := Try.checked) false ⟨#[], #[.string ⟨#[]⟩, .string ⟨#[]⟩], []⟩ 8 (by kernel_rfl) (by kernel_rfl) (by kernel_rfl) (by kernel_rfl)) ?_
  intro W base args ds gs before hval0 hW _ _
  have hval : ∀ (j : Nat) t v, Try.f3.params[j]? = some t → args[j]? = some v → Value.okWide Try.prog W .any base t v := hval0
  have hW' := hW
  obtain ⟨p, q, hA0, hV, rfl, _, _⟩ := hW
  have hA : DataW.TrodAll enc Try.prog W 0 (fun _ => true) true Try.f3.params.toList args.toList ds p := hA0
  rw [Try.params3] at hA hval
  obtain ⟨rfl, rfl⟩ := trodVars_none hV
  have hAk := hA
  obtain ⟨v0, v1, d0, d1, p0, p1, rfl, rfl, hp, h0, h1⟩ := trodAll_two hA
  have hlt : ∀ x ∈ p, x.block < W.heap.size := fun x hx => hW'.lt x (by simpa using hx)
  obtain ⟨s0, rfl, rfl, _, ws0⟩ := ChangeMaps.open_string Try.underlying9 (hval 0 9 v0 rfl rfl) h0
  unfold maxLen at ws0
  obtain ⟨l0, rfl, hz0⟩ := str_list s0
  have hl0 : (l0.length : Int) ≤ 9223372036854775807 := by omega
  obtain ⟨s1, rfl, rfl, _, ws1⟩ := ChangeMaps.open_string Try.underlying9 (hval 1 9 v1 rfl rfl) h1
  unfold maxLen at ws1
  obtain ⟨l1, rfl, hz1⟩ := str_list s1
  have hl1 : (l1.length : Int) ≤ 9223372036854775807 := by omega
  clear hA0 hval0
  refine (muls_any l0 l1 W hl0 hl1).mono fun e W' ⟨he, hn⟩ => ?_
  subst he
  refine ⟨_, rfl, ?_⟩
  refine ⟨_, _, _, [], p, [], hW', ?_, trodAll_below_ Try.laidOut hn _ hAk (all_readable (by kernel_rfl)) hlt, rfl, hn.frame _, fun h => by cases h⟩
  exact trodAll_mk1 (shut_bool Try.underlying4 true)

/-- GhashMuls, for every input. -/
theorem muls_holds : Rows.GhashMulsSaid :=
  OpenClaim.holds_of_wide 3 Try.f3 rfl rfl rfl rfl rfl rfl rfl ⟨rfl, rfl, rfl, rfl, rfl⟩ rfl rfl rfl rfl rfl (by kernel_rfl) Try.func3 (by kernel_rfl)
    (of_decide_eq_true (by kernel_rfl)) (by unfold Func.isWrapper; rw [if_neg (of_decide_eq_false (by kernel_rfl))]; exact ⟨rfl, rfl⟩)
    (fun os started H enc _ => muls_lifted os started H enc)
#print axioms muls_holds
end Go.Proofs.Ytlfghagidajpeaa
