/- FieldBoxes is true of every two bytes. -/
import Derived.Test.YtalfjadhdjcpdaaFAlive
import Derived.Test.YtalfjadhdjcpdaaBase0
namespace Go.Proofs.Ytalfjadhdjcpdaa
open Go.ChangeShapes Go.WideShapes Go.ChangeAt Go.RowKit Go.Joins Go.Deep

set_option maxRecDepth 100000 in
set_option maxHeartbeats 2000000 in
theorem fboxes_any (a b : Nat) (w : World) (ha : (a : Int) < 256) (hb : (b : Int) < 256) :
    Calls Try.prog 6 #[.int .u8 (a : Int), .int .u8 (b : Int)] w fun e w' => e = .returned (.bool true) ∧ Below w.heap.size w w' := by
  have HA := Lib.hid (box_any a w ha)
  have HB := Lib.hid (box_any b w hb)
  have HL := Lib.hid (alive_any w)
  have hla := box_lt (a := a) (by omega)
  have hlb := box_lt (a := b) (by omega)
  have n1 := (box_all a (by omega)).2.2.2.1
  have n2 := (box_all a (by omega)).2.2.2.2
  have hinj : (box a = box b) ↔ (a = b) := ⟨fun h => box_inj (by omega) (by omega) h, fun h => by rw [h]⟩
  obtain ⟨x, hx⟩ : ∃ x, box a = x := ⟨_, rfl⟩
  obtain ⟨y, hy⟩ : ∃ y, box b = y := ⟨_, rfl⟩
  rw [hx] at HA hla n1 n2 hinj
  rw [hy] at HB hlb hinj
  obtain ⟨z, hz⟩ : ∃ z, 255 - a = z := ⟨_, rfl⟩
  have hq : bits .xor .u8 IntKind.u8.max (a : Int) = (z : Int) := by
    have key : ∀ a, a < 256 → 255 ^^^ a = 255 - a := by decide +kernel
    rw [show IntKind.u8.max = ((255 : Nat) : Int) from rfl, u8_xor_nat 255 a (by omega) (by omega), key a (by omega), hz]
  rw [hz] at n2
  have d3 : ((x : Int) == (z : Int)) = false := by simp; omega
  have d4 : ((x : Int) != (z : Int)) = true := by simp; omega
  clear hz
  clear hx hy
  have hla' : (x : Int) < 256 := by omega
  have hlb' : (y : Int) < 256 := by omega
  have d1 : ((x : Int) == (a : Int)) = false := by simp; omega
  have d2 : ((x : Int) != (a : Int)) = true := by simp; omega
  by_cases h : a = b
  · have e1 : ((a : Int) == (b : Int)) = true := by simp; omega
    have e2 : ((x : Int) == (y : Int)) = true := by have := hinj.2 h; simp; omega
    clear h hinj n1 n2
    go_enter Try.func6, Try.ntmps6
    go_wp2_with fail
    refine HA.out.mono ?_
    rintro e w1 ⟨rfl, rfl⟩
    go_wp2_with fail
    refine HB.out.mono ?_
    rintro e w1 ⟨rfl, rfl⟩
    go_wp2_with fail
    refine HL.out.mono ?_
    rintro e w1 ⟨rfl, rfl⟩
    go_wp2_with fail
    go_ret
    exact ⟨rfl, Below.refl _ _⟩
  · have e1 : ((a : Int) == (b : Int)) = false := by simp; omega
    have e2 : ((x : Int) == (y : Int)) = false := by
      have k : ¬ x = y := fun h' => h (hinj.1 h')
      simp; omega
    clear h hinj n1 n2
    go_enter Try.func6, Try.ntmps6
    go_wp2_with fail
    refine HA.out.mono ?_
    rintro e w1 ⟨rfl, rfl⟩
    go_wp2_with fail
    refine HB.out.mono ?_
    rintro e w1 ⟨rfl, rfl⟩
    go_wp2_with fail
    refine HL.out.mono ?_
    rintro e w1 ⟨rfl, rfl⟩
    go_wp2_with fail
    go_ret
    exact ⟨rfl, Below.refl _ _⟩

set_option maxHeartbeats 1000000 in
set_option maxRecDepth 100000 in
theorem fboxes_lifted (os : Os) (started : os.Started) (H : Type) (enc : TypeId × Value → H) :
    ReturnsInHanded {} Try.checked os 6 .any (Rows.fieldBoxesSpec.pre6 enc Try.prog Try.f6 Rows.fieldBoxesRow.domain false) (Rows.fieldBoxesSpec.post enc Try.prog Try.f6 false true false false) := by
  refine returnsInHanded_of_change (C := Try.checked) Try.own started (by kernel_rfl) Try.func6
    (ChangeSpec.witness6 (enc := enc) (C := Try.checked) false ⟨#[], #[.int .u8 0, .int .u8 0], []⟩ 8 (by kernel_rfl) (by kernel_rfl) (by kernel_rfl) (by kernel_rfl)) ?_
  intro W base args ds gs before hval0 hW _ _
  have hval : ∀ (j : Nat) t v, Try.f6.params[j]? = some t → args[j]? = some v → Value.okWide Try.prog W .any base t v := hval0
  have hW' := hW
  obtain ⟨p, q, hA0, hV, rfl, _, _⟩ := hW
  have hA : DataW.TrodAll enc Try.prog W 0 (fun _ => true) true Try.f6.params.toList args.toList ds p := hA0
  rw [Try.params6] at hA hval
  obtain ⟨rfl, rfl⟩ := trodVars_none hV
  have hAk := hA
  obtain ⟨v0, v1, d0, d1, p0, p1, rfl, rfl, hp, h0, h1⟩ := trodAll_two hA
  have hlt : ∀ x ∈ p, x.block < W.heap.size := fun x hx => hW'.lt x (by simpa using hx)
  obtain ⟨n0, rfl, rfl, _, wn0⟩ := open_int Try.underlying5 (hval 0 5 v0 rfl rfl) h0
  obtain ⟨m0, rfl, hm0⟩ := u8_nat wn0
  obtain ⟨n1, rfl, rfl, _, wn1⟩ := open_int Try.underlying5 (hval 1 5 v1 rfl rfl) h1
  obtain ⟨m1, rfl, hm1⟩ := u8_nat wn1
  clear hA0 hval0
  refine (fboxes_any m0 m1 W hm0 hm1).mono fun e W' ⟨he, hn⟩ => ?_
  subst he
  refine ⟨_, rfl, ?_⟩
  refine ⟨_, _, _, [], p, [], hW', ?_, trodAll_below_ Try.laidOut hn _ hAk (all_readable (by kernel_rfl)) hlt, rfl, hn.frame _, fun h => by cases h⟩
  exact trodAll_mk1 (shut_bool Try.underlying4 true)

/-- FieldBoxes, for every input. -/
theorem fboxes_holds : Rows.FieldBoxesSaid :=
  OpenClaim.holds_of_wide 6 Try.f6 rfl rfl rfl rfl rfl rfl rfl ⟨rfl, rfl, rfl, rfl, rfl⟩ rfl rfl rfl rfl rfl (by kernel_rfl) Try.func6 (by kernel_rfl)
    (of_decide_eq_true (by kernel_rfl)) (by unfold Func.isWrapper; rw [if_neg (of_decide_eq_false (by kernel_rfl))]; exact ⟨rfl, rfl⟩)
    (fun os started H enc _ => fboxes_lifted os started H enc)
#print axioms fboxes_holds
end Go.Proofs.Ytalfjadhdjcpdaa
