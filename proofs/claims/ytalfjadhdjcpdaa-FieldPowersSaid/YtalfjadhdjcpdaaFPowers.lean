/- FieldPowers is true of every byte and number. -/
import Derived.Test.YtalfjadhdjcpdaaFAlive
import Derived.Test.YtalfjadhdjcpdaaFRefP
import Derived.Test.YtalfjadhdjcpdaaBase0
namespace Go.Proofs.Ytalfjadhdjcpdaa
open Go.ChangeShapes Go.WideShapes Go.ChangeAt Go.RowKit Go.Joins Go.Deep

set_option maxRecDepth 100000 in
set_option maxHeartbeats 2000000 in
theorem fpowers_any (a : Nat) (n : Int) (w : World) (ha : (a : Int) < 256) (hn0 : -9223372036854775808 ≤ n) (hn : n ≤ 9223372036854775807) :
    Calls Try.prog 4 #[.int .u8 (a : Int), .int .i64 n] w fun e w' => e = .returned (.bool true) ∧ Below w.heap.size w w' := by
  have HL := Lib.hid (alive_any w)
  have HP := Lib.hid (pow_any a n w ha hn hn0)
  by_cases hc00 : (a ≠ 0) ∧ (600 < n)
  · obtain ⟨h0, h6⟩ := hc00
    have q1 : ((a : Int) == 0) = false := by simp; omega
    have q2 : ((a : Int) != 0) = true := by simp; omega
    have hmin : min n 600 = 600 := by omega
    have HR := Lib.hid (rpw_any a (n % 255 + 255) w ha (by omega))
    have HE : Hid (pw a (n % 255 + 255).toNat = pw a n.toNat) := Lib.hid (by rw [show (n % 255 + 255).toNat = n.toNat % 255 + 255 by omega, pw_mod (by omega) h0])
    rw [HE.out] at HR
    generalize pw a n.toNat = z at HP HR
    have H0 := Lib.hid h0
    clear h0 HE
    go_enter Try.func4, Try.ntmps4
    go_wp2_with fail
    refine HL.out.mono ?_
    rintro e w1 ⟨rfl, rfl⟩
    go_wp2_with fail
    refine HP.out.mono ?_
    rintro e w1 ⟨rfl, rfl⟩
    go_wp2_with fail
    refine HR.out.mono ?_
    rintro e w1 ⟨rfl, rfl⟩
    go_wp2_with fail
    go_ret
    exact ⟨rfl, Below.refl _ _⟩
  by_cases hc01 : (a ≠ 0) ∧ (n ≤ 600)
  · obtain ⟨h0, h6⟩ := hc01
    clear hc00
    have q1 : ((a : Int) == 0) = false := by simp; omega
    have q2 : ((a : Int) != 0) = true := by simp; omega
    have hmin : min n 600 = n := by omega
    have HR := Lib.hid (rpw_any a n w ha (by omega))
    have HE : Hid (True) := Lib.hid trivial
    generalize pw a n.toNat = z at HP HR
    have H0 := Lib.hid h0
    clear h0 HE
    go_enter Try.func4, Try.ntmps4
    go_wp2_with fail
    refine HL.out.mono ?_
    rintro e w1 ⟨rfl, rfl⟩
    go_wp2_with fail
    refine HP.out.mono ?_
    rintro e w1 ⟨rfl, rfl⟩
    go_wp2_with fail
    refine HR.out.mono ?_
    rintro e w1 ⟨rfl, rfl⟩
    go_wp2_with fail
    go_ret
    exact ⟨rfl, Below.refl _ _⟩
  by_cases hc10 : (a = 0) ∧ (600 < n)
  · obtain ⟨h0, h6⟩ := hc10
    clear hc00
    clear hc01
    have q1 : ((a : Int) == 0) = true := by simp; omega
    have q2 : ((a : Int) != 0) = false := by simp; omega
    have hmin : min n 600 = 600 := by omega
    have HR := Lib.hid (rpw_any a 600 w ha (by omega))
    have HE : Hid (pw a (Int.toNat 600) = pw a n.toNat) := Lib.hid (by rw [h0, pw_zero _ (by decide), pw_zero _ (by omega)])
    rw [HE.out] at HR
    generalize pw a n.toNat = z at HP HR
    have H0 := Lib.hid h0
    clear h0 HE
    go_enter Try.func4, Try.ntmps4
    go_wp2_with fail
    refine HL.out.mono ?_
    rintro e w1 ⟨rfl, rfl⟩
    go_wp2_with fail
    refine HP.out.mono ?_
    rintro e w1 ⟨rfl, rfl⟩
    go_wp2_with fail
    refine HR.out.mono ?_
    rintro e w1 ⟨rfl, rfl⟩
    go_wp2_with fail
    go_ret
    exact ⟨rfl, Below.refl _ _⟩
  by_cases hc11 : (a = 0) ∧ (n ≤ 600)
  · obtain ⟨h0, h6⟩ := hc11
    clear hc00
    clear hc01
    clear hc10
    have q1 : ((a : Int) == 0) = true := by simp; omega
    have q2 : ((a : Int) != 0) = false := by simp; omega
    have hmin : min n 600 = n := by omega
    have HR := Lib.hid (rpw_any a n w ha (by omega))
    have HE : Hid (True) := Lib.hid trivial
    generalize pw a n.toNat = z at HP HR
    have H0 := Lib.hid h0
    clear h0 HE
    go_enter Try.func4, Try.ntmps4
    go_wp2_with fail
    refine HL.out.mono ?_
    rintro e w1 ⟨rfl, rfl⟩
    go_wp2_with fail
    refine HP.out.mono ?_
    rintro e w1 ⟨rfl, rfl⟩
    go_wp2_with fail
    refine HR.out.mono ?_
    rintro e w1 ⟨rfl, rfl⟩
    go_wp2_with fail
    go_ret
    exact ⟨rfl, Below.refl _ _⟩
  · omega

set_option maxHeartbeats 1000000 in
set_option maxRecDepth 100000 in
theorem fpowers_lifted (os : Os) (started : os.Started) (H : Type) (enc : TypeId × Value → H) :
    ReturnsInHanded {} Try.checked os 4 .any (Rows.fieldPowersSpec.pre6 enc Try.prog Try.f4 Rows.fieldPowersRow.domain false) (Rows.fieldPowersSpec.post enc Try.prog Try.f4 false true false false) := by
  refine returnsInHanded_of_change (C := Try.checked) Try.own started (by kernel_rfl) Try.func4
    (ChangeSpec.witness6 (enc := enc) (C := Try.checked) false ⟨#[], #[.int .u8 0, .int .i64 0], []⟩ 8 (by kernel_rfl) (by kernel_rfl) (by kernel_rfl) (by kernel_rfl)) ?_
  intro W base args ds gs before hval0 hW _ _
  have hval : ∀ (j : Nat) t v, Try.f4.params[j]? = some t → args[j]? = some v → Value.okWide Try.prog W .any base t v := hval0
  have hW' := hW
  obtain ⟨p, q, hA0, hV, rfl, _, _⟩ := hW
  have hA : DataW.TrodAll enc Try.prog W 0 (fun _ => true) true Try.f4.params.toList args.toList ds p := hA0
  rw [Try.params4] at hA hval
  obtain ⟨rfl, rfl⟩ := trodVars_none hV
  have hAk := hA
  obtain ⟨v0, v1, d0, d1, p0, p1, rfl, rfl, hp, h0, h1⟩ := trodAll_two hA
  have hlt : ∀ x ∈ p, x.block < W.heap.size := fun x hx => hW'.lt x (by simpa using hx)
  obtain ⟨n0, rfl, rfl, _, wn0⟩ := open_int Try.underlying5 (hval 0 5 v0 rfl rfl) h0
  obtain ⟨m0, rfl, hm0⟩ := u8_nat wn0
  obtain ⟨n1, rfl, rfl, _, wn1⟩ := open_int Try.underlying3 (hval 1 3 v1 rfl rfl) h1
  have hi1 := i64_bounds wn1
  clear hA0 hval0
  refine (fpowers_any m0 n1 W hm0 hi1.1 hi1.2).mono fun e W' ⟨he, hn⟩ => ?_
  subst he
  refine ⟨_, rfl, ?_⟩
  refine ⟨_, _, _, [], p, [], hW', ?_, trodAll_below_ Try.laidOut hn _ hAk (all_readable (by kernel_rfl)) hlt, rfl, hn.frame _, fun h => by cases h⟩
  exact trodAll_mk1 (shut_bool Try.underlying4 true)

/-- FieldPowers, for every input. -/
theorem fpowers_holds : Rows.FieldPowersSaid :=
  OpenClaim.holds_of_wide 4 Try.f4 rfl rfl rfl rfl rfl rfl rfl ⟨rfl, rfl, rfl, rfl, rfl⟩ rfl rfl rfl rfl rfl (by kernel_rfl) Try.func4 (by kernel_rfl)
    (of_decide_eq_true (by kernel_rfl)) (by unfold Func.isWrapper; rw [if_neg (of_decide_eq_false (by kernel_rfl))]; exact ⟨rfl, rfl⟩)
    (fun os started H enc _ => fpowers_lifted os started H enc)
#print axioms fpowers_holds
end Go.Proofs.Ytalfjadhdjcpdaa
