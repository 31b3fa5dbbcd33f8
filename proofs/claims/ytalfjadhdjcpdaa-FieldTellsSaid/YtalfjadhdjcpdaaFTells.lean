/- FieldTells is true of every two bytes. -/
import Derived.Test.YtalfjadhdjcpdaaFAlive
import Derived.Test.YtalfjadhdjcpdaaFBoxes
import Derived.Test.YtalfjadhdjcpdaaBase0
namespace Go.Proofs.Ytalfjadhdjcpdaa
open Go.ChangeShapes Go.WideShapes Go.ChangeAt Go.RowKit Go.Joins Go.Deep

theorem bdn {B : Nat} {a w : World} (h : Below B a w) (n : Nat) : Below B a (w.drewN n) := ⟨h.os, h.tape, h.output, h.size, h.block⟩
set_option maxRecDepth 100000 in
set_option maxHeartbeats 4000000 in
theorem ftells_any (a b : Nat) (w : World) (ha : (a : Int) < 256) (hb : (b : Int) < 256) :
    Calls Try.prog 3 #[.int .u8 (a : Int), .int .u8 (b : Int)] w fun e w' => e = .returned (.bool true) ∧ Below w.heap.size w w' := by
  have a8 : a < 256 := by omega
  have HB := Lib.hid (boxes_any w)
  have HC : Hid ((boxT.map bv).toArray[a]? = some (bv (box a))) := Lib.hid (by
    have key : ∀ a, a < 256 → boxT[a]? = some (box a) := by decide +kernel
    rw [List.getElem?_toArray, List.getElem?_map, key a a8]
    rfl)
  have HL := Lib.hid alive_any
  have H1 := Lib.hid (fun w => mul_any a b w ha hb)
  have H2 := Lib.hid (fun w => rmul_any a b w ha hb)
  have H3 := Lib.hid (fun w => inv_any a w ha)
  have H4 := Lib.hid (fun w => rinv_any a w ha)
  have H5 := Lib.hid (fun w => box_any a w ha)
  have H6 := Lib.hid (fun w => rbox_any a w ha)
  have l1 := cm_lt (a := a) b a8
  have l2 := inv_lt a8
  have l3 := box_lt a8
  generalize cm a b = p at H1 H2 l1
  generalize inv a = i at H3 H4 l2
  generalize box a = x at H5 H6 HC l3
  clear a8
  go_enter Try.func3, Try.ntmps3
  go_wp2_with fail
  refine HB.out.mono ?_
  rintro e w1 ⟨g, rfl, hg, hK, hb1⟩
  have hc : w1.cell? ⟨g, a, none⟩ = some (.int .u8 (x : Int)) := (hK.cell a).trans HC.out
  have HK := Lib.hid hK
  clear hK
  go_wp2_with fail
  go_quiet (first | (go_at_call 8; exact Calls.quiet_of_same ((HL.out _).mono fun _ _ ⟨h, k⟩ => ⟨h, k.symm⟩)) | (go_at_call 9; exact Calls.quiet_of_same ((H1.out _).mono fun _ _ ⟨h, k⟩ => ⟨h, k.symm⟩)) | (go_at_call 10; exact Calls.quiet_of_same ((H2.out _).mono fun _ _ ⟨h, k⟩ => ⟨h, k.symm⟩)) | (go_at_call 11; exact Calls.quiet_of_same ((H3.out _).mono fun _ _ ⟨h, k⟩ => ⟨h, k.symm⟩)) | (go_at_call 12; exact Calls.quiet_of_same ((H4.out _).mono fun _ _ ⟨h, k⟩ => ⟨h, k.symm⟩)) | (go_at_call 13; exact Calls.quiet_of_same ((H5.out _).mono fun _ _ ⟨h, k⟩ => ⟨h, k.symm⟩)) | (go_at_call 14; exact Calls.quiet_of_same ((H6.out _).mono fun _ _ ⟨h, k⟩ => ⟨h, k.symm⟩)))
  go_wp2_with fail
  go_ret
  exact ⟨rfl, bdn hb1 _⟩

set_option maxHeartbeats 1000000 in
set_option maxRecDepth 100000 in
theorem ftells_lifted (os : Os) (started : os.Started) (H : Type) (enc : TypeId × Value → H) :
    ReturnsInHanded {} Try.checked os 3 .any (Rows.fieldTellsSpec.pre6 enc Try.prog Try.f3 Rows.fieldTellsRow.domain false) (Rows.fieldTellsSpec.post enc Try.prog Try.f3 false true false false) := by
  refine returnsInHanded_of_change (C := Try.checked) Try.own started (by kernel_rfl) Try.func3
    (ChangeSpec.witness6 (enc := enc) (C := Try.checked) false ⟨#[], #[.int .u8 0, .int .u8 0], []⟩ 8 (by kernel_rfl) (by kernel_rfl) (by kernel_rfl) (by kernel_rfl)) ?_
  intro W base args ds gs before hval0 hW _ _
  have hval : ∀ (j : Nat) t v, Try.f3.params[j]? = some t → args[j]? = some v → Value.okWide Try.prog W .any base t v := hval0
  have hW' := hW
  obtain ⟨p, q, hA0, hV, rfl, _, _⟩ := hW
  have hA : DataW.TrodAll enc Try.prog W 0 (fun _ => true) true Try.f3.params.toList args.toList ds p := hA0
  rw [Try.params3] at hA hval
  obtain ⟨rfl, rfl⟩ := trodVars_none hV
  have hAk := hA
  obtain ⟨v0, v1, d0, d1, p0, p1, rfl, rfl, hp, h0, h1⟩ := trodAll_two hA
  have hlt : ∀ x ∈ p, x.block < W.heap.size := fun x hx => hW'.lt x (by simpa using hx)
  obtain ⟨n0, rfl, rfl, _, wn0⟩ := open_int Try.underlying5 (hval 0 5 v0 rfl rfl) h0
  obtain ⟨m0, rfl, hm0⟩ := u8_nat wn0
  obtain ⟨n1, rfl, rfl, _, wn1⟩ := open_int Try.underlying5 (hval 1 5 v1 rfl rfl) h1
  obtain ⟨m1, rfl, hm1⟩ := u8_nat wn1
  clear hA0 hval0
  refine (ftells_any m0 m1 W hm0 hm1).mono fun e W' ⟨he, hn⟩ => ?_
  subst he
  refine ⟨_, rfl, ?_⟩
  refine ⟨_, _, _, [], p, [], hW', ?_, trodAll_below_ Try.laidOut hn _ hAk (all_readable (by kernel_rfl)) hlt, rfl, hn.frame _, fun h => by cases h⟩
  exact trodAll_mk1 (shut_bool Try.underlying4 true)

/-- FieldTells, for every input. -/
theorem ftells_holds : Rows.FieldTellsSaid :=
  OpenClaim.holds_of_wide 3 Try.f3 rfl rfl rfl rfl rfl rfl rfl ⟨rfl, rfl, rfl, rfl, rfl⟩ rfl rfl rfl rfl rfl (by kernel_rfl) Try.func3 (by kernel_rfl)
    (of_decide_eq_true (by kernel_rfl)) (by unfold Func.isWrapper; rw [if_neg (of_decide_eq_false (by kernel_rfl))]; exact ⟨rfl, rfl⟩)
    (fun os started H enc _ => ftells_lifted os started H enc)
#print axioms ftells_holds
end Go.Proofs.Ytalfjadhdjcpdaa
