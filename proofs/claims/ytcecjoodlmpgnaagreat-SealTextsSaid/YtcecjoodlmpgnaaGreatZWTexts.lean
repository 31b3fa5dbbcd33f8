/- SealTexts is true of every key, kind, sector, generation, logical number and data, and leaves them as they were. -/
import Derived.Test.YtcecjoodlmpgnaaGreatQ01
import Derived.Test.YtcecjoodlmpgnaaGreatQ02
import Derived.Test.YtcecjoodlmpgnaaGreatQ25
namespace Go.Proofs.YtcecjoodlmpgnaaGreat
open Go.ChangeShapes Go.WideShapes Go.ChangeAt Go.RowKit Go.Joins Go.Deep


set_option maxHeartbeats 1000000 in
theorem stexts_any (k0 d0 : List UInt8) (kind a : Int) (g l : Nat) (w : World) (hk0 : (k0.length : Int) ≤ 9223372036854775807) (hd0 : (d0.length : Int) ≤ 9223372036854775807) (hg : g < 18446744073709551616) (hl : l < 18446744073709551616) :
    Calls Tryz.prog 3 #[.string ⟨k0.toArray⟩, .int .i64 kind, .int .i64 a, .int .u64 (g : Int), .int .u64 (l : Int), .string ⟨d0.toArray⟩] w fun e w' => e = .returned (.bool true) ∧ Below w.heap.size w w' := by
  have HC1 := Lib.hid (fun W => wcut_any k0 W hk0)
  have HC2 := Lib.hid (fun W => wcut_any d0 W hd0)
  have lk : (k0.take 100).length ≤ 100 := by rw [List.length_take]; omega
  have ld : (d0.take 100).length ≤ 100 := by rw [List.length_take]; omega
  generalize k0.take 100 = k at *
  generalize d0.take 100 = d at *
  have NO := fun R hR h0 => Lib.hid (fun W => wseal_no k d kind a g l W R (by omega) hR h0)
  have HP := Lib.hid (fun W => place_any a kind W)
  have HK := Lib.hid (fun W => tkey_any k W (by omega))
  cases ha : atB a with
  | false =>
    have P : a < 0 ∨ (0 ≤ a ∧ 63 < a) := by simp [atB] at ha; omega
    rw [ha] at NO
    exact stexts_bad k0 d0 k d kind a g l w HC1 HC2 (Lib.hid (fun W => wnonce_no a g W ha)) (NO 1 rfl rfl) P
  | true =>
    rw [ha] at NO HP
    obtain ⟨A, rfl, hA⟩ := atB_yes ha
    have HN := Lib.hid (fun W => wnonce_yes A g W hA (by omega))
    have HR := Lib.hid (fun W => rwnonce_any A g W hA (by omega))
    cases hi : kindB kind with
    | false =>
      rw [hi] at NO HP
      exact stexts_kind k0 d0 k d _ kind A g l w HC1 HC2 HN (NO 1 rfl rfl) HR HP (by omega) (by omega)
    | true =>
      rw [hi] at NO HP
      obtain ⟨K, rfl, hK⟩ := kindB_yes hi
      cases hk : keyB k with
      | false =>
        rw [hk] at NO HK
        exact stexts_key k0 d0 k d _ K A g l w HC1 HC2 HN (NO 4 rfl rfl) HR HP HK (by omega) (by omega)
      | true =>
        rw [hk] at NO HK
        have hk2 := keyB_yes hk
        by_cases hd : d.length ≤ 64
        · exact stexts_yes k0 d0 k d _ _ K A g l w HC1 HC2 HN (Lib.hid (fun W => wseal_yes k d K A g l W hk2 hd hA hK (by omega) (by omega))) HR HP HK (Lib.hid (fun W => rwseal_any k d K A g l W hk2 hd hA hK (by omega) (by omega))) (by omega) (by omega) hd
        · rw [show decide ((d.length : Int) ≤ 64) = false by simp; omega] at NO
          exact stexts_long k0 d0 k d _ K A g l w HC1 HC2 HN (NO 4 rfl rfl) HR HP HK (by omega) (by omega) (by omega)

set_option maxHeartbeats 1000000 in
set_option maxRecDepth 100000 in
theorem stexts_lifted (os : Os) (started : os.Started) (H : Type) (enc : TypeId × Value → H) :
    ReturnsInHanded {} Tryz.checked os 3 .any (Rows.sealTextsSpec.pre6 enc Tryz.prog Tryz.f3 Rows.sealTextsRow.domain false) (Rows.sealTextsSpec.post enc Tryz.prog Tryz.f3 false true false false) := by
  refine returnsInHanded_of_change (C := Tryz.checked) Tryz.own started (by kernel_rfl) Tryz.func3
    (ChangeSpec.witness6 (enc := enc) (C := Tryz.checked) false ⟨#[], #[.string ⟨#[]⟩, .int .i64 0, .int .i64 0, .int .u64 0, .int .u64 0, .string ⟨#[]⟩], []⟩ 8 (by kernel_rfl) (by kernel_rfl) (by kernel_rfl) (by kernel_rfl)) ?_
  intro W base args ds gs before hval0 hW _ _
  have hval : ∀ (j : Nat) t v, Tryz.f3.params[j]? = some t → args[j]? = some v → Value.okWide Tryz.prog W .any base t v := hval0
  have hW' := hW
  obtain ⟨p, q, hA0, hV, rfl, _, _⟩ := hW
  have hA : DataW.TrodAll enc Tryz.prog W 0 (fun _ => true) true Tryz.f3.params.toList args.toList ds p := hA0
  rw [Tryz.params3] at hA hval
  obtain ⟨rfl, rfl⟩ := trodVars_none hV
  have hAk := hA
  obtain ⟨v0, v1, v2, v3, v4, v5, d0, d1, d2, d3, d4, d5, p0, p1, p2, p3, p4, p5, rfl, rfl, hp, h0, h1, h2, h3, h4, h5⟩ := trodAll_six hA
  have hlt : ∀ x ∈ p, x.block < W.heap.size := fun x hx => hW'.lt x (by simpa using hx)
  obtain ⟨s0, rfl, rfl, _, ws0⟩ := ChangeMaps.open_string Tryz.underlying9 (hval 0 9 v0 rfl rfl) h0
  unfold maxLen at ws0
  obtain ⟨l0, rfl, hz0⟩ := str_list s0
  have hl0 : (l0.length : Int) ≤ 9223372036854775807 := by omega
  obtain ⟨n1, rfl, rfl, _, wn1⟩ := open_int Tryz.underlying3 (hval 1 3 v1 rfl rfl) h1
  have hi1 := i64_bounds wn1
  obtain ⟨n2, rfl, rfl, _, wn2⟩ := open_int Tryz.underlying3 (hval 2 3 v2 rfl rfl) h2
  have hi2 := i64_bounds wn2
  obtain ⟨n3, rfl, rfl, _, wn3⟩ := open_int Tryz.underlying22 (hval 3 22 v3 rfl rfl) h3
  obtain ⟨m3, rfl, hm3⟩ := u64_nat wn3
  obtain ⟨n4, rfl, rfl, _, wn4⟩ := open_int Tryz.underlying22 (hval 4 22 v4 rfl rfl) h4
  obtain ⟨m4, rfl, hm4⟩ := u64_nat wn4
  obtain ⟨s5, rfl, rfl, _, ws5⟩ := ChangeMaps.open_string Tryz.underlying9 (hval 5 9 v5 rfl rfl) h5
  unfold maxLen at ws5
  obtain ⟨l5, rfl, hz5⟩ := str_list s5
  have hl5 : (l5.length : Int) ≤ 9223372036854775807 := by omega
  clear hA0 hval0
  refine (stexts_any l0 l5 n1 n2 m3 m4 W hl0 hl5 hm3 hm4).mono fun e W' ⟨he, hn⟩ => ?_
  subst he
  refine ⟨_, rfl, ?_⟩
  refine ⟨_, _, _, [], p, [], hW', ?_, trodAll_below_ Tryz.laidOut hn _ hAk (all_readable (by kernel_rfl)) hlt, rfl, hn.frame _, fun h => by cases h⟩
  exact trodAll_mk1 (shut_bool Tryz.underlying4 true)

/-- SealTexts, for every input. -/
theorem stexts_holds : Rows.SealTextsSaid :=
  OpenClaim.holds_of_wide 3 Tryz.f3 rfl rfl rfl rfl rfl rfl rfl ⟨rfl, rfl, rfl, rfl, rfl⟩ rfl rfl rfl rfl rfl (by kernel_rfl) Tryz.func3 (by kernel_rfl)
    (of_decide_eq_true (by kernel_rfl)) (by unfold Func.isWrapper; rw [if_neg (of_decide_eq_false (by kernel_rfl))]; exact ⟨rfl, rfl⟩)
    (fun os started H enc _ => stexts_lifted os started H enc)
#print axioms stexts_holds
end Go.Proofs.YtcecjoodlmpgnaaGreat
