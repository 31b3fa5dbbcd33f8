/- ProofBinds is true of every key, list, item and proof, and leaves them as they were; the table of math/bits that it reads is tied to its initialiser. -/
import Derived.Test.YtjonhenllhnibaaGreatDoorTie
import Derived.Test.YtjonhenllhnibaaGreatDoorCards
import Derived.Test.YtjonhenllhnibaaGreatDoorQ01
import Derived.Test.YtjonhenllhnibaaGreatDoorQ13
import Derived.Test.YtjonhenllhnibaaGreatDoorQ33
import Derived.Test.YtjonhenllhnibaaGreatDoorQ37
namespace Go.Proofs.YtjonhenllhnibaaGreatDoor
open Go.ChangeShapes Go.WideShapes Go.ChangeAt Go.RowKit Go.Joins Go.Deep


set_option maxHeartbeats 1000000 in
set_option maxRecDepth 100000 in
theorem pbinds_lifted (os : Os) (started : os.Started) (H : Type) (enc : TypeId × Value → H) :
    ReturnsInHanded {} Tryz.checked os 6 .any (fun w args => (Rows.proofBindsSpec.pre enc Tryz.prog Tryz.f6 [] false w args ∧ laidMetH Tryz.prog vlaid w) ∧ sizedMet enc Tryz.prog Tryz.f6 (OpenSpec.ofChange Rows.proofBindsSpec) false w args)
      (Rows.proofBindsSpec.post enc Tryz.prog Tryz.f6 false true false false) := by
  refine returnsInHanded_of_change_and (C := Tryz.checked) (X := fun w _ => laidMetH Tryz.prog vlaid w) (fun _ _ _ hh h => h.of_heap hh) Tryz.own started (by kernel_rfl) Tryz.func6
    (ChangeSpec.witness_shaped (enc := enc) (C := Tryz.checked) (os := os) (X := fun w _ => laidMetH Tryz.prog vlaid w) false (World.doorLaid Tryz.prog 14 os) #[.string ⟨#[]⟩, .slice none 0 0, .agg #[.int .u64 0, .string ⟨#[]⟩], .agg #[.slice none 0 0, .slice none 0 0]] 8 rfl (World.shaped_of_RefB (by kernel_rfl) (by kernel_rfl)) (by kernel_rfl) (by kernel_rfl) (by kernel_rfl) (vdoor_met os _)) ?_
  intro W base args ds gs before hval0 hW _ _ hL0 _
  have hT := vtab_of_laid hL0
  clear hL0
  have hval : ∀ (j : Nat) t v, Tryz.f6.params[j]? = some t → args[j]? = some v → Value.okWide Tryz.prog W .any base t v := hval0
  have hW' := hW
  obtain ⟨p, q, hA0, hV, rfl, _, _⟩ := hW
  have hA : DataW.TrodAll enc Tryz.prog W 0 (fun _ => true) true Tryz.f6.params.toList args.toList ds p := hA0
  rw [Tryz.params6] at hA hval
  obtain ⟨rfl, rfl⟩ := trodVars_none hV
  have hAk := hA
  obtain ⟨v0, v1, v2, v3, d0, d1, d2, d3, p0, p1, p2, p3, rfl, rfl, hp, h0, h1, h2, h3⟩ := trodAll_four hA
  have hlt : ∀ x ∈ p, x.block < W.heap.size := fun x hx => hW'.lt x (by simpa using hx)
  obtain ⟨s0, rfl, rfl, _, ws0⟩ := ChangeMaps.open_string Tryz.underlying9 (hval 0 9 v0 rfl rfl) h0
  unfold maxLen at ws0
  obtain ⟨l0, rfl, hz0⟩ := str_list s0
  have hl0 : (l0.length : Int) ≤ 9223372036854775807 := by omega
  obtain ⟨A1, cap1, l1, rfl, hc1, hR1, hx1⟩ := open_items (hval 1 22 v1 rfl rfl) h1
  obtain ⟨m2, s2, rfl, hm2⟩ := open_item (hval 2 42 v2 rfl rfl) h2
  obtain ⟨A3, B3, c3, e3, G3, F3, rfl, hc3, he3, hA3, hB3, hG3, hF3⟩ := open_proof (hval 3 26 v3 rfl rfl) h3
  clear hA0 hval0
  refine (plawB_any l0 A1 cap1 m2 s2 l1 A3 B3 c3 e3 G3 F3 W hR1 hc1 hx1 hm2 hA3 hB3 hc3 he3 hG3 hF3 hT).mono fun e W' ⟨he, hn⟩ => ?_
  subst he
  refine ⟨_, rfl, ?_⟩
  refine ⟨_, _, _, [], p, [], hW', ?_, trodAll_below_ Tryz.laidOut hn _ hAk (all_readable (by kernel_rfl)) hlt, rfl, hn.frame _, fun h => by cases h⟩
  exact trodAll_mk1 (shut_bool Tryz.underlying4 true)

/-- ProofBinds, for every input: the row, the table as it lists it. -/
theorem pbinds_row : Rows.ProofBindsSaid :=
  OpenClaim.holds_of_wide 6 Tryz.f6 rfl rfl rfl rfl rfl rfl rfl ⟨rfl, rfl, rfl, rfl, rfl⟩ rfl rfl rfl rfl rfl (by kernel_rfl) Tryz.func6 (by kernel_rfl)
    (of_decide_eq_true (by kernel_rfl)) (by unfold Func.isWrapper; first | (rw [if_pos (by decide +kernel)]; kernel_rfl) | (rw [if_neg (by decide +kernel)]; exact ⟨rfl, rfl⟩))
    (fun os started H enc _ => pbinds_lifted os started H enc)

/-- ProofBinds: THE CARD: the table tied to the program's text. -/
theorem pbinds_holds : Rows.ProofBindsCardSaid :=
  Claim7.holds_tied_plain_at .later [] [.data] true (true, Rows.proofBindsCard.stood.harness.2) false
    pbinds_row (fun _ h => by cases h) (by kernel_rfl) (fun _ h => by cases h) proofBinds_row_tie rfl ⟨rfl, rfl⟩ (by kernel_rfl) rfl
    (fun f fn hf hfn => by
      obtain rfl : f = 6 := Option.some.inj ((show Tryz.prog.funcNamed "saltus/saltuslaw18.ProofBinds" = some 6 by kernel_rfl).symm.trans hf) |>.symm
      obtain rfl : fn = Tryz.f6 := (Option.some.inj (Tryz.func6.symm.trans hfn)).symm
      exact ⟨by kernel_rfl, fun j t ht => by
        rw [Tryz.params6] at ht
        have hm : t ∈ [9, 22, 42, 26] := by simpa using Array.mem_of_getElem? ht
        have hall : ([9, 22, 42, 26].all fun u => !Tryz.prog.wantsStandIn u) = true := by kernel_rfl
        exact (show Tryz.prog.wantsStandIn t = false by simpa using List.all_eq_true.1 hall t hm)⟩)
    (by kernel_rfl)
#print axioms pbinds_holds
end Go.Proofs.YtjonhenllhnibaaGreatDoor
