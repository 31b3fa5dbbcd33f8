/- FieldHolds is true of every three bytes. -/
import Derived.Test.YtalfjadhdjcpdaaFAlive
import Derived.Test.YtalfjadhdjcpdaaBase0
namespace Go.Proofs.Ytalfjadhdjcpdaa
open Go.ChangeShapes Go.WideShapes Go.ChangeAt Go.RowKit Go.Joins Go.Deep

set_option maxRecDepth 100000 in
set_option maxHeartbeats 4000000 in
theorem fholds_any (a b c : Nat) (w : World) (ha : (a : Int) < 256) (hb : (b : Int) < 256) (hc : (c : Int) < 256) :
    Calls Try.prog 5 #[.int .u8 (a : Int), .int .u8 (b : Int), .int .u8 (c : Int)] w fun e w' => e = .returned (.bool true) ∧ Below w.heap.size w w' := by
  have a8 : a < 256 := by omega
  have b8 : b < 256 := by omega
  have c8 : c < 256 := by omega
  have HL := Lib.hid (alive_any w)
  have H1 := Lib.hid (inv_any a w ha)
  have hia := inv_lt a8
  have H2 := Lib.hid (mul_any a (inv a) w ha (by omega))
  have H14 := Lib.hid (inv_any (inv a) w (by omega))
  rw [inv_inv a8] at H14
  have H3 := Lib.hid (mul_any a b w ha hb)
  have H4 := Lib.hid (mul_any b a w hb ha)
  rw [← cm_comm a8 b8] at H4
  have hq := xor_lt8 b8 c8
  have H5 := Lib.hid (mul_any a (b ^^^ c) w ha (by omega))
  have H7 := Lib.hid (mul_any a c w ha hc)
  have x1 := u8_xor_nat b c b8 c8
  have hp := cm_lt (a := a) b a8
  have hs := cm_lt (a := a) c a8
  have x2 := u8_xor_nat (cm a b) (cm a c) hp hs
  rw [← cm_spread] at x2
  have H9 := Lib.hid (mul_any (cm a b) c w (by omega) hc)
  have hu := cm_lt (a := b) c b8
  have H10 := Lib.hid (mul_any b c w hb hc)
  have H11 := Lib.hid (mul_any a (cm b c) w ha (by omega))
  rw [← cm_assoc a8 b8 c8] at H11
  have H12 := Lib.hid (mul_any a 1 w ha (by omega))
  rw [cm_one a8] at H12
  have hr := cm_lt (a := a) (b ^^^ c) a8
  have ht := cm_lt (a := cm a b) c hp
  have HO : Hid ((a = 0 → cm a (inv a) = 0) ∧ (a ≠ 0 → cm a (inv a) = 1)) := Lib.hid ⟨fun h => by rw [h, zero_cm], fun h => cm_inv a8 h⟩
  generalize cm a (inv a) = own at H2 HO
  generalize inv a = ia at H1 H2 H14 hia
  generalize cm (cm a b) c = t at H9 H11 ht
  generalize cm a (b ^^^ c) = r at H5 x2 hr
  generalize b ^^^ c = q at H5 x1 hq
  generalize cm b c = u at H10 H11 hu
  generalize cm a c = s at H7 x2 hs
  generalize cm a b = p at H3 H4 H9 x2 hp
  have G1 : (ia : Int) < 256 := by omega
  have G2 : (q : Int) < 256 := by omega
  have G3 : (r : Int) < 256 := by omega
  have G4 : (p : Int) < 256 := by omega
  have G5 : (s : Int) < 256 := by omega
  have G6 : (t : Int) < 256 := by omega
  have G7 : (u : Int) < 256 := by omega
  clear a8 b8 c8 hia hq hp hs hu hr ht
  by_cases h0 : a = 0
  · obtain rfl : own = 0 := HO.out.1 h0
    have q1 : ((a : Int) == 0) = true := by simp; omega
    have q2 : ((a : Int) != 0) = false := by simp; omega
    have H0 := Lib.hid h0
    clear HO h0
    go_enter Try.func5, Try.ntmps5
    go_wp2_with fail
    refine H1.out.mono ?_
    rintro e w1 ⟨rfl, rfl⟩
    go_wp2_with fail
    refine H2.out.mono ?_
    rintro e w1 ⟨rfl, rfl⟩
    go_wp2_with fail
    refine HL.out.mono ?_
    rintro e w1 ⟨rfl, rfl⟩
    go_wp2_with fail
    refine H3.out.mono ?_
    rintro e w1 ⟨rfl, rfl⟩
    go_wp2_with fail
    refine H4.out.mono ?_
    rintro e w1 ⟨rfl, rfl⟩
    go_wp2_with fail
    refine H5.out.mono ?_
    rintro e w1 ⟨rfl, rfl⟩
    go_wp2_with fail
    refine H3.out.mono ?_
    rintro e w1 ⟨rfl, rfl⟩
    go_wp2_with fail
    refine H7.out.mono ?_
    rintro e w1 ⟨rfl, rfl⟩
    go_wp2_with fail
    refine H3.out.mono ?_
    rintro e w1 ⟨rfl, rfl⟩
    go_wp2_with fail
    refine H9.out.mono ?_
    rintro e w1 ⟨rfl, rfl⟩
    go_wp2_with fail
    refine H10.out.mono ?_
    rintro e w1 ⟨rfl, rfl⟩
    go_wp2_with fail
    refine H11.out.mono ?_
    rintro e w1 ⟨rfl, rfl⟩
    go_wp2_with fail
    refine H12.out.mono ?_
    rintro e w1 ⟨rfl, rfl⟩
    go_wp2_with fail
    any_goals (first | (exfalso; have hh := ‹some undef = some (Value.bool _)›; cases hh) | skip)
    refine H1.out.mono ?_
    rintro e w1 ⟨rfl, rfl⟩
    go_wp2_with fail
    refine H14.out.mono ?_
    rintro e w1 ⟨rfl, rfl⟩
    go_wp2_with fail
    go_ret
    exact ⟨rfl, Below.refl _ _⟩
  · obtain rfl : own = 1 := HO.out.2 h0
    have q1 : ((a : Int) == 0) = false := by simp; omega
    have q2 : ((a : Int) != 0) = true := by simp; omega
    have H0 := Lib.hid h0
    clear HO h0
    go_enter Try.func5, Try.ntmps5
    go_wp2_with fail
    refine H1.out.mono ?_
    rintro e w1 ⟨rfl, rfl⟩
    go_wp2_with fail
    refine H2.out.mono ?_
    rintro e w1 ⟨rfl, rfl⟩
    go_wp2_with fail
    refine HL.out.mono ?_
    rintro e w1 ⟨rfl, rfl⟩
    go_wp2_with fail
    refine H3.out.mono ?_
    rintro e w1 ⟨rfl, rfl⟩
    go_wp2_with fail
    refine H4.out.mono ?_
    rintro e w1 ⟨rfl, rfl⟩
    go_wp2_with fail
    refine H5.out.mono ?_
    rintro e w1 ⟨rfl, rfl⟩
    go_wp2_with fail
    refine H3.out.mono ?_
    rintro e w1 ⟨rfl, rfl⟩
    go_wp2_with fail
    refine H7.out.mono ?_
    rintro e w1 ⟨rfl, rfl⟩
    go_wp2_with fail
    refine H3.out.mono ?_
    rintro e w1 ⟨rfl, rfl⟩
    go_wp2_with fail
    refine H9.out.mono ?_
    rintro e w1 ⟨rfl, rfl⟩
    go_wp2_with fail
    refine H10.out.mono ?_
    rintro e w1 ⟨rfl, rfl⟩
    go_wp2_with fail
    refine H11.out.mono ?_
    rintro e w1 ⟨rfl, rfl⟩
    go_wp2_with fail
    refine H12.out.mono ?_
    rintro e w1 ⟨rfl, rfl⟩
    go_wp2_with fail
    refine H1.out.mono ?_
    rintro e w1 ⟨rfl, rfl⟩
    go_wp2_with fail
    refine H14.out.mono ?_
    rintro e w1 ⟨rfl, rfl⟩
    go_wp2_with fail
    go_ret
    exact ⟨rfl, Below.refl _ _⟩

set_option maxHeartbeats 1000000 in
set_option maxRecDepth 100000 in
theorem fholds_lifted (os : Os) (started : os.Started) (H : Type) (enc : TypeId × Value → H) :
    ReturnsInHanded {} Try.checked os 5 .any (Rows.fieldHoldsSpec.pre6 enc Try.prog Try.f5 Rows.fieldHoldsRow.domain false) (Rows.fieldHoldsSpec.post enc Try.prog Try.f5 false true false false) := by
  refine returnsInHanded_of_change (C := Try.checked) Try.own started (by kernel_rfl) Try.func5
    (ChangeSpec.witness6 (enc := enc) (C := Try.checked) false ⟨#[], #[.int .u8 0, .int .u8 0, .int .u8 0], []⟩ 8 (by kernel_rfl) (by kernel_rfl) (by kernel_rfl) (by kernel_rfl)) ?_
  intro W base args ds gs before hval0 hW _ _
  have hval : ∀ (j : Nat) t v, Try.f5.params[j]? = some t → args[j]? = some v → Value.okWide Try.prog W .any base t v := hval0
  have hW' := hW
  obtain ⟨p, q, hA0, hV, rfl, _, _⟩ := hW
  have hA : DataW.TrodAll enc Try.prog W 0 (fun _ => true) true Try.f5.params.toList args.toList ds p := hA0
  rw [Try.params5] at hA hval
  obtain ⟨rfl, rfl⟩ := trodVars_none hV
  have hAk := hA
  obtain ⟨v0, v1, v2, d0, d1, d2, p0, p1, p2, rfl, rfl, hp, h0, h1, h2⟩ := trodAll_three hA
  have hlt : ∀ x ∈ p, x.block < W.heap.size := fun x hx => hW'.lt x (by simpa using hx)
  obtain ⟨n0, rfl, rfl, _, wn0⟩ := open_int Try.underlying5 (hval 0 5 v0 rfl rfl) h0
  obtain ⟨m0, rfl, hm0⟩ := u8_nat wn0
  obtain ⟨n1, rfl, rfl, _, wn1⟩ := open_int Try.underlying5 (hval 1 5 v1 rfl rfl) h1
  obtain ⟨m1, rfl, hm1⟩ := u8_nat wn1
  obtain ⟨n2, rfl, rfl, _, wn2⟩ := open_int Try.underlying5 (hval 2 5 v2 rfl rfl) h2
  obtain ⟨m2, rfl, hm2⟩ := u8_nat wn2
  clear hA0 hval0
  refine (fholds_any m0 m1 m2 W hm0 hm1 hm2).mono fun e W' ⟨he, hn⟩ => ?_
  subst he
  refine ⟨_, rfl, ?_⟩
  refine ⟨_, _, _, [], p, [], hW', ?_, trodAll_below_ Try.laidOut hn _ hAk (all_readable (by kernel_rfl)) hlt, rfl, hn.frame _, fun h => by cases h⟩
  exact trodAll_mk1 (shut_bool Try.underlying4 true)

/-- FieldHolds, for every input. -/
theorem fholds_holds : Rows.FieldHoldsSaid :=
  OpenClaim.holds_of_wide 5 Try.f5 rfl rfl rfl rfl rfl rfl rfl ⟨rfl, rfl, rfl, rfl, rfl⟩ rfl rfl rfl rfl rfl (by kernel_rfl) Try.func5 (by kernel_rfl)
    (of_decide_eq_true (by kernel_rfl)) (by unfold Func.isWrapper; rw [if_neg (of_decide_eq_false (by kernel_rfl))]; exact ⟨rfl, rfl⟩)
    (fun os started H enc _ => fholds_lifted os started H enc)
#print axioms fholds_holds
end Go.Proofs.Ytalfjadhdjcpdaa
