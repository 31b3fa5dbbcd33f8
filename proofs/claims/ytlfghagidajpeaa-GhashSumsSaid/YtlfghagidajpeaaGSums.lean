/- GhashSums: any texts' blocks, and their sum by any block, are as the document says; else it is refused. For every three texts. -/
import Derived.Test.YtlfghagidajpeaaGRBlks
import Derived.Test.YtlfghagidajpeaaGSame
import Derived.Test.YtlfghagidajpeaaGCut
import Derived.Test.YtlfghagidajpeaaBase0
namespace Go.Proofs.Ytlfghagidajpeaa
open Go.ChangeShapes Go.WideShapes Go.ChangeAt Go.RowKit Go.Joins Go.Deep

set_option maxRecDepth 100000 in
set_option maxHeartbeats 4000000 in
theorem sums_any (a b c : List UInt8) (w : World) (ha : (a.length : Int) ≤ 9223372036854775807) (hb : (b.length : Int) ≤ 9223372036854775807) (hc : (c.length : Int) ≤ 9223372036854775807) :
    Calls Try.prog 4 #[.string ⟨a.toArray⟩, .string ⟨b.toArray⟩, .string ⟨c.toArray⟩] w fun e w' => e = .returned (.bool true) ∧ Below w.heap.size w w' := by
  have HCA := Lib.hid (fun W => gcut_any a W ha)
  have HCB := Lib.hid (fun W => gcut_any b W hb)
  have HCC := Lib.hid (fun W => gcut_any c W hc)
  clear ha hb hc
  have ly : (b.take 80).length ≤ 80 := by rw [List.length_take]; omega
  have lz : (c.take 80).length ≤ 80 := by rw [List.length_take]; omega
  generalize a.take 80 = x at HCA
  generalize b.take 80 = y at HCB ly
  generalize c.take 80 = z at HCC lz
  have HAL := Lib.hid alive_any
  have hx := size_of x
  have HK := Lib.hid (fun W => blks_any y z W ly lz)
  have HR := Lib.hid (fun W => rblocks_any y z W ly lz)
  have HLL : Hid ((blocksL y z).length = (blocksN y z).length) := Lib.hid (by simp [blocksL])
  have HL20 : Hid ((blocksN y z).length ≤ 65536) := Lib.hid (by rw [blocksN_len]; omega)
  by_cases h : x.length = 16
  · have HM := Lib.hid (fun W => sum_yes x y z W h ly lz)
    have HRM := Lib.hid (fun W => rsum_any x y z W h ly lz)
    rw [h] at hx
    generalize sumL x y z = E at HM HRM
    generalize blocksL y z = BL at HK HR HLL
    generalize (blocksN y z).length = n at HK HR HLL HL20
    clear h ly lz
    go_enter Try.func4, Try.ntmps4
    go_wp2_with fail
    refine (HCA.out _).mono ?_
    rintro e w' ⟨rfl, rfl⟩
    go_wp2_with fail
    refine (HCB.out _).mono ?_
    rintro e w' ⟨rfl, rfl⟩
    go_wp2_with fail
    refine (HCC.out _).mono ?_
    rintro e w' ⟨rfl, rfl⟩
    go_wp2_with fail
    refine (HM.out _).mono ?_
    rintro e wa ⟨rfl, hba⟩
    go_wp2_with fail
    refine (HK.out _).mono ?_
    rintro e wb ⟨A1, c1, rfl, hs1, hbb⟩
    have HS1 := Lib.hid hs1
    have hB2 := bt hba hbb
    clear hs1 hba hbb
    go_wp2_with fail
    refine (HR.out _).mono ?_
    rintro e wc ⟨A2, c2, rfl, hs2, hbc⟩
    have HS2 := Lib.hid hs2
    have HS1c := Lib.hid (HS1.out.later hbc)
    have hB3 := bt hB2 hbc
    clear hs2 HS1 hB2 hbc
    go_wp2_with fail
    refine (gsame_any A1 A2 c1 c2 n n BL BL _ HS1c.out HS2.out HLL.out HLL.out HL20.out HL20.out).mono ?_
    rintro e wd ⟨rfl, hbd⟩
    have hdt : decide (BL = BL) = true := by simp
    have hB3d := bt hB3 hbd
    clear hB3 hbd HS1c HS2
    go_wp2_with fail
    refine (HAL.out _).mono ?_
    rintro e we ⟨rfl, hbe⟩
    have hB4 := bt hB3d hbe
    clear hB3d hbe
    go_wp2_with fail
    refine (HRM.out _).mono ?_
    rintro e w9 ⟨rfl, hb9⟩
    go_wp2
    go_ret
    exact ⟨rfl, bt hB4 hb9⟩
  · have HM := Lib.hid (fun W => sum_no x y z W h)
    have h2 : (x.length == 16) = false := by simp; exact h
    have h3 : ((x.length : Int) != 16) = true := by simp; omega
    generalize blocksL y z = BL at HK HR HLL
    generalize (blocksN y z).length = n at HK HR HLL HL20
    clear h ly lz
    go_enter Try.func4, Try.ntmps4
    go_wp2_with fail
    refine (HCA.out _).mono ?_
    rintro e w' ⟨rfl, rfl⟩
    go_wp2_with fail
    refine (HCB.out _).mono ?_
    rintro e w' ⟨rfl, rfl⟩
    go_wp2_with fail
    refine (HCC.out _).mono ?_
    rintro e w' ⟨rfl, rfl⟩
    go_wp2_with fail
    refine (HM.out _).mono ?_
    rintro e wa ⟨rfl, hba⟩
    go_wp2_with fail
    refine (HK.out _).mono ?_
    rintro e wb ⟨A1, c1, rfl, hs1, hbb⟩
    have HS1 := Lib.hid hs1
    have hB2 := bt hba hbb
    clear hs1 hba hbb
    go_wp2_with fail
    refine (HR.out _).mono ?_
    rintro e wc ⟨A2, c2, rfl, hs2, hbc⟩
    have HS2 := Lib.hid hs2
    have HS1c := Lib.hid (HS1.out.later hbc)
    have hB3 := bt hB2 hbc
    clear hs2 HS1 hB2 hbc
    go_wp2_with fail
    refine (gsame_any A1 A2 c1 c2 n n BL BL _ HS1c.out HS2.out HLL.out HLL.out HL20.out HL20.out).mono ?_
    rintro e wd ⟨rfl, hbd⟩
    have hdt : decide (BL = BL) = true := by simp
    have hB3d := bt hB3 hbd
    clear hB3 hbd HS1c HS2
    go_wp2_with fail
    refine (HAL.out _).mono ?_
    rintro e we ⟨rfl, hbe⟩
    have hB4 := bt hB3d hbe
    clear hB3d hbe
    go_wp2
    go_ret
    exact ⟨rfl, hB4⟩

set_option maxHeartbeats 1000000 in
set_option maxRecDepth 100000 in
theorem sums_lifted (os : Os) (started : os.Started) (H : Type) (enc : TypeId × Value → H) :
    ReturnsInHanded {} Try.checked os 4 .any (Rows.ghashSumsSpec.pre6 enc Try.prog Try.f4 Rows.ghashSumsRow.domain false) (Rows.ghashSumsSpec.post enc Try.prog Try.f4 false true false false) := by
  refine returnsInHanded_of_change (C := Try.checked) Try.own started (by kernel_rfl) Try.func4
    (ChangeSpec.witness6 (enc := enc) (C := Try.checked) false ⟨#[], #[.string ⟨#[]⟩, .string ⟨#[]⟩, .string ⟨#[]⟩], []⟩ 8 (by kernel_rfl) (by kernel_rfl) (by kernel_rfl) (by kernel_rfl)) ?_
  intro W base args ds gs before hval0 hW _ _
  have hval : ∀ (j : Nat) t v, Try.f4.params[j]? = some t → args[j]? = some v → Value.okWide Try.prog W .any base t v := hval0
  have hW' := hW
  obtain ⟨p, q, hA0, hV, rfl, _, _⟩ := hW
  have hA : DataW.TrodAll enc Try.prog W 0 (fun _ => true) true Try.f4.params.toList args.toList ds p := hA0
  rw [Try.params4] at hA hval
  obtain ⟨rfl, rfl⟩ := trodVars_none hV
  have hAk := hA
  obtain ⟨v0, v1, v2, d0, d1, d2, p0, p1, p2, rfl, rfl, hp, h0, h1, h2⟩ := trodAll_three hA
  have hlt : ∀ x ∈ p, x.block < W.heap.size := fun x hx => hW'.lt x (by simpa using hx)
  obtain ⟨s0, rfl, rfl, _, ws0⟩ := ChangeMaps.open_string Try.underlying9 (hval 0 9 v0 rfl rfl) h0
  unfold maxLen at ws0
  obtain ⟨l0, rfl, hz0⟩ := str_list s0
  have hl0 : (l0.length : Int) ≤ 9223372036854775807 := by omega
  obtain ⟨s1, rfl, rfl, _, ws1⟩ := ChangeMaps.open_string Try.underlying9 (hval 1 9 v1 rfl rfl) h1
  unfold maxLen at ws1
  obtain ⟨l1, rfl, hz1⟩ := str_list s1
  have hl1 : (l1.length : Int) ≤ 9223372036854775807 := by omega
  obtain ⟨s2, rfl, rfl, _, ws2⟩ := ChangeMaps.open_string Try.underlying9 (hval 2 9 v2 rfl rfl) h2
  unfold maxLen at ws2
  obtain ⟨l2, rfl, hz2⟩ := str_list s2
  have hl2 : (l2.length : Int) ≤ 9223372036854775807 := by omega
  clear hA0 hval0
  refine (sums_any l0 l1 l2 W hl0 hl1 hl2).mono fun e W' ⟨he, hn⟩ => ?_
  subst he
  refine ⟨_, rfl, ?_⟩
  refine ⟨_, _, _, [], p, [], hW', ?_, trodAll_below_ Try.laidOut hn _ hAk (all_readable (by kernel_rfl)) hlt, rfl, hn.frame _, fun h => by cases h⟩
  exact trodAll_mk1 (shut_bool Try.underlying4 true)

/-- GhashSums, for every input. -/
theorem sums_holds : Rows.GhashSumsSaid :=
  OpenClaim.holds_of_wide 4 Try.f4 rfl rfl rfl rfl rfl rfl rfl ⟨rfl, rfl, rfl, rfl, rfl⟩ rfl rfl rfl rfl rfl (by kernel_rfl) Try.func4 (by kernel_rfl)
    (of_decide_eq_true (by kernel_rfl)) (by unfold Func.isWrapper; rw [if_neg (of_decide_eq_false (by kernel_rfl))]; exact ⟨rfl, rfl⟩)
    (fun os started H enc _ => sums_lifted os started H enc)
#print axioms sums_holds
end Go.Proofs.Ytlfghagidajpeaa
