/- SkipOrder is true of every list and two items, and leaves them as they were; the table of math/bits that it reads is tied to its initialiser. -/
import Derived.Test.YtegojdblaanclaaDoorTie
import Derived.Test.YtegojdblaanclaaDoorCards
import Derived.Test.YtegojdblaanclaaDoorQ14
import Derived.Test.YtegojdblaanclaaDoorQ20
namespace Go.Proofs.YtegojdblaanclaaDoor
open Go.ChangeShapes Go.WideShapes Go.ChangeAt Go.RowKit Go.Joins Go.Deep


set_option maxHeartbeats 1000000 in
set_option maxRecDepth 100000 in
theorem order_lifted (os : Os) (started : os.Started) (H : Type) (enc : TypeId × Value → H) :
    ReturnsInHanded {} Tryd.checked os 6 .any (fun w args => (Rows.skipOrderSpec.pre enc Tryd.prog Tryd.f6 [] false w args ∧ laidMetH Tryd.prog vlaid w) ∧ sizedMet enc Tryd.prog Tryd.f6 (OpenSpec.ofChange Rows.skipOrderSpec) false w args)
      (Rows.skipOrderSpec.post enc Tryd.prog Tryd.f6 false true false false) := by
  refine returnsInHanded_of_change_and (C := Tryd.checked) (X := fun w _ => laidMetH Tryd.prog vlaid w) (fun _ _ _ hh h => h.of_heap hh) Tryd.own started (by kernel_rfl) Tryd.func6
    (ChangeSpec.witness_shaped (enc := enc) (C := Tryd.checked) (os := os) (X := fun w _ => laidMetH Tryd.prog vlaid w) false (World.doorLaid Tryd.prog 14 os) #[.slice none 0 0, .agg #[.int .u64 0, .string ⟨#[]⟩], .agg #[.int .u64 0, .string ⟨#[]⟩]] 8 rfl (World.shaped_of_RefB (by kernel_rfl) (by kernel_rfl)) (by kernel_rfl) (by kernel_rfl) (by kernel_rfl) (vdoor_met os _)) ?_
  intro W base args ds gs before hval0 hW _ _ hL0 _
  have hT := vtab_of_laid hL0
  clear hL0
  have hval : ∀ (j : Nat) t v, Tryd.f6.params[j]? = some t → args[j]? = some v → Value.okWide Tryd.prog W .any base t v := hval0
  have hW' := hW
  obtain ⟨p, q, hA0, hV, rfl, _, _⟩ := hW
  have hA : DataW.TrodAll enc Tryd.prog W 0 (fun _ => true) true Tryd.f6.params.toList args.toList ds p := hA0
  rw [Tryd.params6] at hA hval
  obtain ⟨rfl, rfl⟩ := trodVars_none hV
  have hAk := hA
  obtain ⟨v0, v1, v2, d0, d1, d2, p0, p1, p2, rfl, rfl, hp, h0, h1, h2⟩ := trodAll_three hA
  have hlt : ∀ x ∈ p, x.block < W.heap.size := fun x hx => hW'.lt x (by simpa using hx)
  obtain ⟨A0, cap0, l0, rfl, hc0, hR0, hx0⟩ := open_items (hval 0 22 v0 rfl rfl) h0
  obtain ⟨m1, s1, rfl, hm1⟩ := open_item (hval 1 25 v1 rfl rfl) h1
  obtain ⟨m2, s2, rfl, hm2⟩ := open_item (hval 2 25 v2 rfl rfl) h2
  clear hA0 hval0
  refine (ilawO_any A0 cap0 m1 m2 s1 s2 l0 W hR0 hc0 hx0 hm1 hT).mono fun e W' ⟨he, hn⟩ => ?_
  subst he
  refine ⟨_, rfl, ?_⟩
  refine ⟨_, _, _, [], p, [], hW', ?_, trodAll_below_ Tryd.laidOut hn _ hAk (all_readable (by kernel_rfl)) hlt, rfl, hn.frame _, fun h => by cases h⟩
  exact trodAll_mk1 (shut_bool Tryd.underlying4 true)

/-- SkipOrder, for every input: the row, the table as it lists it. -/
theorem order_row : Rows.SkipOrderSaid :=
  OpenClaim.holds_of_wide 6 Tryd.f6 rfl rfl rfl rfl rfl rfl rfl ⟨rfl, rfl, rfl, rfl, rfl⟩ rfl rfl rfl rfl rfl (by kernel_rfl) Tryd.func6 (by kernel_rfl)
    (of_decide_eq_true (by kernel_rfl)) (by unfold Func.isWrapper; first | (rw [if_pos (by decide +kernel)]; kernel_rfl) | (rw [if_neg (by decide +kernel)]; exact ⟨rfl, rfl⟩))
    (fun os started H enc _ => order_lifted os started H enc)

/-- SkipOrder: THE CARD: the table tied to the program's text. -/
theorem order_holds : Rows.SkipOrderCardSaid :=
  Claim7.holds_tied_plain_at .later [] [.data] true (true, Rows.skipOrderCard.stood.harness.2) false
    order_row (fun _ h => by cases h) (by kernel_rfl) (fun _ h => by cases h) skipOrder_row_tie rfl ⟨rfl, rfl⟩ (by kernel_rfl) rfl
    (fun f fn hf hfn => by
      obtain rfl : f = 6 := Option.some.inj ((show Tryd.prog.funcNamed "saltus/saltuslaw16.SkipOrder" = some 6 by kernel_rfl).symm.trans hf) |>.symm
      obtain rfl : fn = Tryd.f6 := (Option.some.inj (Tryd.func6.symm.trans hfn)).symm
      exact ⟨by kernel_rfl, fun j t ht => by
        rw [Tryd.params6] at ht
        have hm : t ∈ [22, 25, 25] := by simpa using Array.mem_of_getElem? ht
        have hall : ([22, 25, 25].all fun u => !Tryd.prog.wantsStandIn u) = true := by kernel_rfl
        exact (show Tryd.prog.wantsStandIn t = false by simpa using List.all_eq_true.1 hall t hm)⟩)
    (by kernel_rfl)
#print axioms order_holds
end Go.Proofs.YtegojdblaanclaaDoor
