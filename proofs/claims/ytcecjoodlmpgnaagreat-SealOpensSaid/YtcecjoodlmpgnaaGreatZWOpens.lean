/- SealOpens is true of every key, kind, sector, logical number and text, and leaves them as they were. -/
import Derived.Test.YtcecjoodlmpgnaaGreatQ01
import Derived.Test.YtcecjoodlmpgnaaGreatQ02
import Derived.Test.YtcecjoodlmpgnaaGreatQ25
namespace Go.Proofs.YtcecjoodlmpgnaaGreat
open Go.ChangeShapes Go.WideShapes Go.ChangeAt Go.RowKit Go.Joins Go.Deep


set_option maxHeartbeats 1000000 in
theorem sopens_any (k0 s0 : List UInt8) (kind a : Int) (l : Nat) (w : World) (hk0 : (k0.length : Int) ≤ 9223372036854775807) (hs0 : (s0.length : Int) ≤ 9223372036854775807) (hl : l < 18446744073709551616) :
    Calls Tryz.prog 4 #[.string ⟨k0.toArray⟩, .int .i64 kind, .int .i64 a, .int .u64 (l : Int), .string ⟨s0.toArray⟩] w fun e w' => e = .returned (.bool true) ∧ Below w.heap.size w w' := by
  have HC1 := Lib.hid (fun W => wcut_any k0 W hk0)
  have HC2 := Lib.hid (fun W => wcut_any s0 W hs0)
  have lk : (k0.take 100).length ≤ 100 := by rw [List.length_take]; omega
  have ls : (s0.take 100).length ≤ 100 := by rw [List.length_take]; omega
  generalize k0.take 100 = k at *
  generalize s0.take 100 = s at *
  have NO := fun R hR h0 => Lib.hid (fun W => wopen_no k s kind a l W R (by omega) (by omega) hR h0)
  have HP := Lib.hid (fun W => place_any a kind W)
  have HK := Lib.hid (fun W => tkey_any k W (by omega))
  by_cases hp : atB a = true ∧ kindB kind = true
  · obtain ⟨ha, hi⟩ := hp
    rw [ha, hi] at NO HP
    obtain ⟨A, rfl, hA⟩ := atB_yes ha
    obtain ⟨K, rfl, hK⟩ := kindB_yes hi
    cases hk : keyB k with
    | false =>
      rw [hk] at NO HK
      exact sopens_key k0 s0 k s K A l w HC1 HC2 (NO 4 (fun _ _ _ => rfl) rfl) HP HK
    | true =>
      rw [hk] at HK
      have hk2 := keyB_yes hk
      have HO := Lib.hid (fun W => wopen_yes k s K A l W hk2 (by omega) hA hK (by omega))
      have HR := Lib.hid (fun W => rwopen_any k s K A l W hk2 (by omega) hA hK (by omega))
      cases ho : wopen (encL k) K A l s with
      | none =>
        rw [ho] at HO HR
        exact sopens_none k0 s0 k s K A l w HC1 HC2 HO HP HK HR
      | some x =>
        obtain ⟨v, t⟩ := x
        rw [ho] at HO HR
        exact sopens_some k0 s0 k s t K A l v w HC1 HC2 HO HP HK HR
  · have hf : (atB a && kindB kind) = false := by
      cases h1 : atB a <;> cases h2 : kindB kind <;> first | rfl | exact absurd ⟨h1, h2⟩ hp
    have hR : ∀ b3 : Bool, refuse [(atB a, 1), (kindB kind, 1), (keyB k, 4), (b3, 5)] = 1 := fun b3 => by
      cases h1 : atB a <;> cases h2 : kindB kind <;> first | rfl | exact absurd ⟨h1, h2⟩ hp
    rw [hf] at HP
    exact sopens_place k0 s0 k s kind a l w HC1 HC2 (NO 1 (fun b3 _ _ => hR b3) rfl) HP

set_option maxHeartbeats 1000000 in
set_option maxRecDepth 100000 in
theorem sopens_lifted (os : Os) (started : os.Started) (H : Type) (enc : TypeId × Value → H) :
    ReturnsInHanded {} Tryz.checked os 4 .any (Rows.sealOpensSpec.pre6 enc Tryz.prog Tryz.f4 Rows.sealOpensRow.domain false) (Rows.sealOpensSpec.post enc Tryz.prog Tryz.f4 false true false false) := by
  refine returnsInHanded_of_change (C := Tryz.checked) Tryz.own started (by kernel_rfl) Tryz.func4
    (ChangeSpec.witness6 (enc := enc) (C := Tryz.checked) false ⟨#[], #[.string ⟨#[]⟩, .int .i64 0, .int .i64 0, .int .u64 0, .string ⟨#[]⟩], []⟩ 8 (by kernel_rfl) (by kernel_rfl) (by kernel_rfl) (by kernel_rfl)) ?_
  intro W base args ds gs before hval0 hW _ _
  have hval : ∀ (j : Nat) t v, Tryz.f4.params[j]? = some t → args[j]? = some v → Value.okWide Tryz.prog W .any base t v := hval0
  have hW' := hW
  obtain ⟨p, q, hA0, hV, rfl, _, _⟩ := hW
  have hA : DataW.TrodAll enc Tryz.prog W 0 (fun _ => true) true Tryz.f4.params.toList args.toList ds p := hA0
  rw [Tryz.params4] at hA hval
  obtain ⟨rfl, rfl⟩ := trodVars_none hV
  have hAk := hA
  obtain ⟨v0, v1, v2, v3, v4, d0, d1, d2, d3, d4, p0, p1, p2, p3, p4, rfl, rfl, hp, h0, h1, h2, h3, h4⟩ := trodAll_five hA
  have hlt : ∀ x ∈ p, x.block < W.heap.size := fun x hx => hW'.lt x (by simpa using hx)
  obtain ⟨s0, rfl, rfl, _, ws0⟩ := ChangeMaps.open_string Tryz.underlying9 (hval 0 9 v0 rfl rfl) h0
  unfold maxLen at ws0
  obtain ⟨l0, rfl, hz0⟩ := str_list s0
  have hl0 : (l0.length : Int) ≤ 9223372036854775807 := by omega
  obtain ⟨n1, rfl, rfl, _, wn1⟩ := open_int Tryz.underlying3 (hval 1 3 v1 rfl rfl) h1
  have hi1 := i64_bounds wn1
  obtain ⟨n2, rfl, rfl, _, wn2⟩ := open_int Tryz.underlying3 (hval 2 3 v2 rfl rfl) h2
  have hi2 := i64_bounds wn2
  obtain ⟨n3, rfl, rfl, _, wn3⟩ := open_int Tryz.underlying22 (hval 3 22 v3 rfl rfl) h3
  obtain ⟨m3, rfl, hm3⟩ := u64_nat wn3
  obtain ⟨s4, rfl, rfl, _, ws4⟩ := ChangeMaps.open_string Tryz.underlying9 (hval 4 9 v4 rfl rfl) h4
  unfold maxLen at ws4
  obtain ⟨l4, rfl, hz4⟩ := str_list s4
  have hl4 : (l4.length : Int) ≤ 9223372036854775807 := by omega
  clear hA0 hval0
  refine (sopens_any l0 l4 n1 n2 m3 W hl0 hl4 hm3).mono fun e W' ⟨he, hn⟩ => ?_
  subst he
  refine ⟨_, rfl, ?_⟩
  refine ⟨_, _, _, [], p, [], hW', ?_, trodAll_below_ Tryz.laidOut hn _ hAk (all_readable (by kernel_rfl)) hlt, rfl, hn.frame _, fun h => by cases h⟩
  exact trodAll_mk1 (shut_bool Tryz.underlying4 true)

/-- SealOpens, for every input. -/
theorem sopens_holds : Rows.SealOpensSaid :=
  OpenClaim.holds_of_wide 4 Tryz.f4 rfl rfl rfl rfl rfl rfl rfl ⟨rfl, rfl, rfl, rfl, rfl⟩ rfl rfl rfl rfl rfl (by kernel_rfl) Tryz.func4 (by kernel_rfl)
    (of_decide_eq_true (by kernel_rfl)) (by unfold Func.isWrapper; rw [if_neg (of_decide_eq_false (by kernel_rfl))]; exact ⟨rfl, rfl⟩)
    (fun os started H enc _ => sopens_lifted os started H enc)
#print axioms sopens_holds
end Go.Proofs.YtcecjoodlmpgnaaGreat
