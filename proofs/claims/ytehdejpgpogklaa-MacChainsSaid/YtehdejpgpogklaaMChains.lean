/- MacChains is true of every two texts and every list of texts, and leaves them as they were. -/
import Derived.Test.YtehdejpgpogklaaMChain
namespace Go.Proofs.Ytehdejpgpogklaa
open Go.ChangeShapes Go.WideShapes Go.ChangeAt Go.RowKit Go.Joins Go.Deep

set_option maxRecDepth 100000 in
set_option maxHeartbeats 2000000 in
theorem chains_any (a b : List UInt8) (L0 : List (List UInt8)) (A0 : Option Addr) (c0 : Nat) (w : World) (ha : (a.length : Int) ≤ 9223372036854775807) (hb : (b.length : Int) ≤ 9223372036854775807)
    (hc : L0.length ≤ c0) (hL : (L0.length : Int) ≤ 9223372036854775807) (hS : ∀ j, ((L0.getD j []).length : Int) ≤ 9223372036854775807) (hR : SR w A0 L0) :
    Calls Try.prog 4 #[.string ⟨a.toArray⟩, .string ⟨b.toArray⟩, .slice A0 L0.length c0] w fun e w' => e = .returned (.bool true) ∧ Below w.heap.size w w' := by
  have HA := Lib.hid (cut_any a w ha)
  have HB := Lib.hid (cut_any b w hb)
  have hl1 : (a.take 200).length ≤ 200 := by rw [List.length_take]; omega
  have hl2 : (b.take 200).length ≤ 200 := by rw [List.length_take]; omega
  generalize a.take 200 = K at HA hl1
  generalize b.take 200 = F at HB hl2
  have HF := Lib.hid (few_any L0 A0 c0 w hR hL hc hS)
  have hfl := fewL_len L0
  have hfs : ∀ j, ((fewL L0).getD j []).length ≤ 200 := fewL_get L0
  generalize fewL L0 = L at HF hfl hfs
  obtain ⟨n, hn⟩ : ∃ n, L.length = n := ⟨_, rfl⟩
  rw [hn] at HF hfl
  have HC := Lib.hid (fun A c W hA => chain_any K F L A c n W hn hA (by omega) (by omega) (by omega) (fun j _ => by have := hfs j; omega))
  have HR := Lib.hid (fun A c W hA => rchain_any K F L A c n W hn hA (by omega) (by omega) (by omega) (fun j _ => by have := hfs j; omega))
  have hCl : (chainL K F L).length = n := by rw [chainL, chainK_len, hn]
  generalize chainL K F L = C at HC HR hCl
  clear ha hb hc hL hS hR hl1 hl2 hfs
  go_enter Try.func4, Try.ntmps4
  go_wp2_with fail
  refine HA.out.mono ?_
  rintro e w1 ⟨rfl, rfl⟩
  go_wp2_with fail
  refine HB.out.mono ?_
  rintro e w1 ⟨rfl, rfl⟩
  go_wp2_with fail
  refine HF.out.mono ?_
  rintro e w1 ⟨A1, c1, rfl, hown1, hb1⟩
  have hs1 := own_SR' hown1 hn
  clear hown1 HA HB HF
  go_wp2_with fail
  refine (alive_any _).mono ?_
  rintro e w2 ⟨rfl, hb2⟩
  have hs2 := hs1.later hb2
  have hB2 := bt hb1 hb2
  clear hb1 hb2 hs1
  go_wp2_with fail
  refine (HC.out A1 c1 _ hs2).mono ?_
  rintro e w3 ⟨g3, c3, rfl, hown3, hb3⟩
  have hs3 := hs2.later hb3
  have ht3 := own_SR hown3 hCl
  have hB3 := bt hB2 hb3
  clear hs2 hB2 hb3 hown3
  go_wp2_with fail
  refine (HR.out A1 c1 _ hs3).mono ?_
  rintro e w4 ⟨g4, c4, rfl, hown4, hb4⟩
  have ht4 := ht3.later hb4
  have hr4 := own_SR hown4 hCl
  have hB4 := bt hB3 hb4
  clear hs3 ht3 hB3 hb4 hown4
  go_wp2_with fail
  refine (rsame_any _ _ _ _ n C w4 ht4 hr4 hCl (by omega)).mono ?_
  rintro e w5 ⟨rfl, hb5⟩
  have hB5 := bt hB4 hb5
  clear hB4 hb5
  go_wp2_with fail
  go_ret
  exact ⟨rfl, hB5⟩


set_option maxHeartbeats 1000000 in
set_option maxRecDepth 100000 in
theorem chains_lifted (os : Os) (started : os.Started) (H : Type) (enc : TypeId × Value → H) :
    ReturnsInHanded {} Try.checked os 4 .any (Rows.macChainsSpec.pre6 enc Try.prog Try.f4 Rows.macChainsRow.domain false) (Rows.macChainsSpec.post enc Try.prog Try.f4 false true false false) := by
  refine returnsInHanded_of_change (C := Try.checked) Try.own started (by kernel_rfl) Try.func4
    (ChangeSpec.witness6 (enc := enc) (C := Try.checked) false ⟨#[], #[.string ⟨#[]⟩, .string ⟨#[]⟩, .slice none 0 0], []⟩ 8 (by kernel_rfl) (by kernel_rfl) (by kernel_rfl) (by kernel_rfl)) ?_
  intro W base args ds gs before hval0 hW _ _
  have hval : ∀ (j : Nat) t v, Try.f4.params[j]? = some t → args[j]? = some v → Value.okWide Try.prog W .any base t v := hval0
  have hW' := hW
  obtain ⟨p, q, hA0, hV, rfl, _, _⟩ := hW
  have hA : DataW.TrodAll enc Try.prog W 0 (fun _ => true) true Try.f4.params.toList args.toList ds p := hA0
  rw [Try.params4] at hA hval
  obtain ⟨rfl, rfl⟩ := trodVars_none hV
  have hAk := hA
  obtain ⟨v0, v1, v2, d0, d1, d2, p0, p1, p2, rfl, rfl, hp, h0, h1, h2⟩ := trodAll_three hA
  have hlt : ∀ x ∈ p, x.block < W.heap.size := fun x hx => hW'.lt x (by simpa using hx)
  obtain ⟨s0, rfl, rfl, _, ws0⟩ := ChangeMaps.open_string Try.underlying9 (hval 0 9 v0 rfl rfl) h0
  unfold maxLen at ws0
  obtain ⟨l0, rfl, hz0⟩ := str_list s0
  have hl0 : (l0.length : Int) ≤ 9223372036854775807 := by omega
  obtain ⟨s1, rfl, rfl, _, ws1⟩ := ChangeMaps.open_string Try.underlying9 (hval 1 9 v1 rfl rfl) h1
  unfold maxLen at ws1
  obtain ⟨l1, rfl, hz1⟩ := str_list s1
  have hl1 : (l1.length : Int) ≤ 9223372036854775807 := by omega
  obtain ⟨A2, cap2, l2, rfl, hc2, hL2, hS2, hR2⟩ := open_texts (hval 2 26 v2 rfl rfl) h2
  clear hA0 hval0
  refine (chains_any l0 l1 l2 A2 cap2 W hl0 hl1 hc2 hL2 hS2 hR2).mono fun e W' ⟨he, hn⟩ => ?_
  subst he
  refine ⟨_, rfl, ?_⟩
  refine ⟨_, _, _, [], p, [], hW', ?_, trodAll_below_ Try.laidOut hn _ hAk (all_readable (by kernel_rfl)) hlt, rfl, hn.frame _, fun h => by cases h⟩
  exact trodAll_mk1 (shut_bool Try.underlying4 true)

/-- MacChains, for every input. -/
theorem chains_holds : Rows.MacChainsSaid :=
  OpenClaim.holds_of_wide 4 Try.f4 rfl rfl rfl rfl rfl rfl rfl ⟨rfl, rfl, rfl, rfl, rfl⟩ rfl rfl rfl rfl rfl (by kernel_rfl) Try.func4 (by kernel_rfl)
    (of_decide_eq_true (by kernel_rfl)) (by unfold Func.isWrapper; rw [if_neg (of_decide_eq_false (by kernel_rfl))]; exact ⟨rfl, rfl⟩)
    (fun os started H enc _ => chains_lifted os started H enc)
#print axioms chains_holds
end Go.Proofs.Ytehdejpgpogklaa
