/- LabelMade is true of every key, list and two items, and leaves them as they were; the table of math/bits that it reads is tied to its initialiser. -/
import Derived.Test.YthllanndiahdjaaDoorTie
import Derived.Test.YthllanndiahdjaaDoorCards
import Derived.Test.YthllanndiahdjaaDoorQ01
import Derived.Test.YthllanndiahdjaaDoorQ12
import Derived.Test.YthllanndiahdjaaDoorQ14
import Derived.Test.YthllanndiahdjaaDoorQ25
namespace Go.Proofs.YthllanndiahdjaaDoor
open Go.ChangeShapes Go.WideShapes Go.ChangeAt Go.RowKit Go.Joins Go.Deep


set_option maxHeartbeats 1000000 in
set_option maxRecDepth 100000 in
theorem lmade_lifted (os : Os) (started : os.Started) (H : Type) (enc : TypeId × Value → H) :
    ReturnsInHanded {} Tryd.checked os 5 .any (fun w args => (Rows.labelMadeSpec.pre enc Tryd.prog Tryd.f5 [] false w args ∧ laidMetH Tryd.prog vlaid w) ∧ sizedMet enc Tryd.prog Tryd.f5 (OpenSpec.ofChange Rows.labelMadeSpec) false w args)
      (Rows.labelMadeSpec.post enc Tryd.prog Tryd.f5 false true false false) := by
  refine returnsInHanded_of_change_and (C := Tryd.checked) (X := fun w _ => laidMetH Tryd.prog vlaid w) (fun _ _ _ hh h => h.of_heap hh) Tryd.own started (by kernel_rfl) Tryd.func5
    (ChangeSpec.witness_shaped (enc := enc) (C := Tryd.checked) (os := os) (X := fun w _ => laidMetH Tryd.prog vlaid w) false (World.doorLaid Tryd.prog 14 os) #[.string ⟨#[]⟩, .slice none 0 0, .agg #[.int .u64 0, .string ⟨#[]⟩], .agg #[.int .u64 0, .string ⟨#[]⟩]] 8 rfl (World.shaped_of_RefB (by kernel_rfl) (by kernel_rfl)) (by kernel_rfl) (by kernel_rfl) (by kernel_rfl) (vdoor_met os _)) ?_
  intro W base args ds gs before hval0 hW _ _ hL0 _
  have hT := vtab_of_laid hL0
  clear hL0
  have hval : ∀ (j : Nat) t v, Tryd.f5.params[j]? = some t → args[j]? = some v → Value.okWide Tryd.prog W .any base t v := hval0
  have hW' := hW
  obtain ⟨p, q, hA0, hV, rfl, _, _⟩ := hW
  have hA : DataW.TrodAll enc Tryd.prog W 0 (fun _ => true) true Tryd.f5.params.toList args.toList ds p := hA0
  rw [Tryd.params5] at hA hval
  obtain ⟨rfl, rfl⟩ := trodVars_none hV
  have hAk := hA
  obtain ⟨v0, v1, v2, v3, d0, d1, d2, d3, p0, p1, p2, p3, rfl, rfl, hp, h0, h1, h2, h3⟩ := trodAll_four hA
  have hlt : ∀ x ∈ p, x.block < W.heap.size := fun x hx => hW'.lt x (by simpa using hx)
  obtain ⟨s0, rfl, rfl, _, ws0⟩ := ChangeMaps.open_string Tryd.underlying9 (hval 0 9 v0 rfl rfl) h0
  unfold maxLen at ws0
  obtain ⟨l0, rfl, hz0⟩ := str_list s0
  have hl0 : (l0.length : Int) ≤ 9223372036854775807 := by omega
  obtain ⟨A1, cap1, l1, rfl, hc1, hR1, hx1⟩ := open_items (hval 1 37 v1 rfl rfl) h1
  obtain ⟨m2, s2, rfl, hm2⟩ := open_item (hval 2 24 v2 rfl rfl) h2
  obtain ⟨m3, s3, rfl, hm3⟩ := open_item (hval 3 24 v3 rfl rfl) h3
  clear hA0 hval0
  refine (ylawM_any l0 A1 cap1 m2 m3 s2 s3 l1 W hR1 hc1 hx1 hm2 hm3 hT).mono fun e W' ⟨he, hn⟩ => ?_
  subst he
  refine ⟨_, rfl, ?_⟩
  refine ⟨_, _, _, [], p, [], hW', ?_, trodAll_below_ Tryd.laidOut hn _ hAk (all_readable (by kernel_rfl)) hlt, rfl, hn.frame _, fun h => by cases h⟩
  exact trodAll_mk1 (shut_bool Tryd.underlying4 true)

/-- LabelMade, for every input: the row, the table as it lists it. -/
theorem lmade_row : Rows.LabelMadeSaid :=
  OpenClaim.holds_of_wide 5 Tryd.f5 rfl rfl rfl rfl rfl rfl rfl ⟨rfl, rfl, rfl, rfl, rfl⟩ rfl rfl rfl rfl rfl (by kernel_rfl) Tryd.func5 (by kernel_rfl)
    (of_decide_eq_true (by kernel_rfl)) (by unfold Func.isWrapper; first | (rw [if_pos (by decide +kernel)]; kernel_rfl) | (rw [if_neg (by decide +kernel)]; exact ⟨rfl, rfl⟩))
    (fun os started H enc _ => lmade_lifted os started H enc)

/-- LabelMade: THE CARD: the table tied to the program's text. -/
theorem lmade_holds : Rows.LabelMadeCardSaid :=
  Claim7.holds_tied_plain_at .later [] [.data] true (true, Rows.labelMadeCard.stood.harness.2) false
    lmade_row (fun _ h => by cases h) (by kernel_rfl) (fun _ h => by cases h) labelMade_row_tie rfl ⟨rfl, rfl⟩ (by kernel_rfl) rfl
    (fun f fn hf hfn => by
      obtain rfl : f = 5 := Option.some.inj ((show Tryd.prog.funcNamed "saltus/saltuslaw17.LabelMade" = some 5 by kernel_rfl).symm.trans hf) |>.symm
      obtain rfl : fn = Tryd.f5 := (Option.some.inj (Tryd.func5.symm.trans hfn)).symm
      exact ⟨by kernel_rfl, fun j t ht => by
        rw [Tryd.params5] at ht
        have hm : t ∈ [9, 37, 24, 24] := by simpa using Array.mem_of_getElem? ht
        have hall : ([9, 37, 24, 24].all fun u => !Tryd.prog.wantsStandIn u) = true := by kernel_rfl
        exact (show Tryd.prog.wantsStandIn t = false by simpa using List.all_eq_true.1 hall t hm)⟩)
    (by kernel_rfl)
#print axioms lmade_holds
end Go.Proofs.YthllanndiahdjaaDoor
