/- SealBack is true of every key, kind, sector, generation, logical number, data, text, other sector and other generation, and leaves them as they were. -/
import Derived.Test.YtcecjoodlmpgnaaQ16
namespace Go.Proofs.Ytcecjoodlmpgnaa
open Go.ChangeShapes Go.WideShapes Go.ChangeAt Go.RowKit Go.Joins Go.Deep


set_option maxHeartbeats 1000000 in
theorem sback_any (k0 d0 t0 : List UInt8) (kind a b : Int) (g l m : Nat) (w : World) (hk0 : (k0.length : Int) ≤ 9223372036854775807) (hd0 : (d0.length : Int) ≤ 9223372036854775807) (ht0 : (t0.length : Int) ≤ 9223372036854775807)
    (hg : g < 18446744073709551616) (hl : l < 18446744073709551616) (hm : m < 18446744073709551616) :
    Calls Try.prog 3 #[.string ⟨k0.toArray⟩, .int .i64 kind, .int .i64 a, .int .u64 (g : Int), .int .u64 (l : Int), .string ⟨d0.toArray⟩, .string ⟨t0.toArray⟩, .int .i64 b, .int .u64 (m : Int)] w fun e w' => e = .returned (.bool true) ∧ Below w.heap.size w w' := by
  have HC1 := Lib.hid (fun W => wcut_any k0 W hk0)
  have HC2 := Lib.hid (fun W => wcut_any d0 W hd0)
  have HC3 := Lib.hid (fun W => wcut_any t0 W ht0)
  have lk : (k0.take 100).length ≤ 100 := by rw [List.length_take]; omega
  have ld : (d0.take 100).length ≤ 100 := by rw [List.length_take]; omega
  have lt : (t0.take 100).length ≤ 100 := by rw [List.length_take]; omega
  generalize k0.take 100 = k at *
  generalize d0.take 100 = d at *
  generalize t0.take 100 = t at *
  obtain ⟨N1, e1, HN1, n1, y1⟩ := wnonce_any a g (by omega)
  obtain ⟨N2, f1, HN2, n2, y2⟩ := wnonce_any b m (by omega)
  have P : (e1 = 1) ∨ (e1 = 0 ∧ f1 = 1) ∨ (e1 = 0 ∧ f1 = 0 ∧ (N1 == N2) = true ∧ (a == b) = true ∧ ((g : Int) == (m : Int)) = true) ∨ (e1 = 0 ∧ f1 = 0 ∧ (N1 == N2) = false ∧ (a == b) = false) ∨ (e1 = 0 ∧ f1 = 0 ∧ (N1 == N2) = false ∧ (a == b) = true ∧ ((g : Int) == (m : Int)) = false) := by
    cases ha : atB a with
    | false => exact .inl (n1 ha)
    | true =>
      obtain ⟨r1, r2⟩ := y1 ha
      cases hb : atB b with
      | false => exact .inr (.inl ⟨r1, n2 hb⟩)
      | true =>
        obtain ⟨r3, r4⟩ := y2 hb
        obtain ⟨A, rfl, hA⟩ := atB_yes ha
        obtain ⟨B, rfl, hB⟩ := atB_yes hb
        simp only [Int.toNat_natCast] at r2 r4
        have hi := wnonce_inj (a := A) (b := B) (g := g) (h := m) (by omega) (by omega) hg hm
        rw [← r2, ← r4] at hi
        refine .inr (.inr ?_)
        by_cases eA : A = B
        · have e1 : ((A : Int) == (B : Int)) = true := by simp; omega
          by_cases eg : g = m
          · exact .inl ⟨r1, r3, by rw [beq_iff_eq]; exact hi.2 ⟨eA, eg⟩, e1, by simp; omega⟩
          · exact .inr (.inr ⟨r1, r3, beq_eq_false_iff_ne.2 (fun e => eg (hi.1 e).2), e1, by simp; omega⟩)
        · exact .inr (.inl ⟨r1, r3, beq_eq_false_iff_ne.2 (fun e => eA (hi.1 e).1), by simp; omega⟩)
  by_cases hok : atB a = true ∧ kindB kind = true ∧ keyB k = true ∧ d.length ≤ 64
  · obtain ⟨ha, hi, hk, hd⟩ := hok
    obtain ⟨A, rfl, hA⟩ := atB_yes ha
    obtain ⟨K, rfl, hK⟩ := kindB_yes hi
    have hk := keyB_yes hk
    have HS := Lib.hid (fun W => wseal_yes k d K A g l W hk hd hA hK (by omega) (by omega))
    have HO := Lib.hid (fun W => wopen_yes k (wseal (encL k) K A g l d) K A l W hk (by rw [wseal_len]; omega) hA hK (by omega))
    rw [wopen_seal hg hd] at HO
    have HT := Lib.hid (fun W => wopen_yes k t K A l W hk (by omega) hA hK (by omega))
    have hq := wseal_len (E := encL k) (kind := K) (a := A) (logical := l) g d
    cases ho : wopen (encL k) K A l t with
    | none =>
      rw [ho] at HT
      exact sback_none k0 d0 t0 k d t N1 N2 _ K A b e1 f1 g l m w HC1 HC2 HC3 HN1 HN2 P HS HO hq hd HT
    | some x =>
      obtain ⟨h, u⟩ := x
      rw [ho] at HT
      obtain ⟨z1, z2, z3, _, _⟩ := wseal_open ho
      have HA := Lib.hid (fun W => wseal_yes k u K A h l W hk z3 hA hK (by omega) (by omega))
      rw [z1] at HA
      exact sback_some k0 d0 t0 k d t N1 N2 _ u K A b e1 f1 g l m h w HC1 HC2 HC3 HN1 HN2 P HS HO hq hd HT HA
  · have hR : (refuse [(atB a, 1), (kindB kind, 1), (keyB k, 4), (decide ((d.length : Int) ≤ 64), 4)] != 0) = true := by
      by_cases hd : d.length ≤ 64
      · have e : decide ((d.length : Int) ≤ 64) = true := by simp; omega
        rw [e]
        cases h1 : atB a <;> cases h2 : kindB kind <;> cases h3 : keyB k <;> first | rfl | exact absurd ⟨h1, h2, h3, hd⟩ hok
      · have e : decide ((d.length : Int) ≤ 64) = false := by simp; omega
        rw [e]
        cases atB a <;> cases kindB kind <;> cases keyB k <;> rfl
    exact sback_no k0 d0 t0 k d t N1 N2 kind a b e1 f1 _ g l m w HC1 HC2 HC3 HN1 HN2 P (Lib.hid (fun W => wseal_no k d kind a g l W _ (by omega) rfl hR)) hR

set_option maxHeartbeats 1000000 in
set_option maxRecDepth 100000 in
theorem sback_lifted (os : Os) (started : os.Started) (H : Type) (enc : TypeId × Value → H) :
    ReturnsInHanded {} Try.checked os 3 .any (Rows.sealBackSpec.pre6 enc Try.prog Try.f3 Rows.sealBackRow.domain false) (Rows.sealBackSpec.post enc Try.prog Try.f3 false true false false) := by
  refine returnsInHanded_of_change (C := Try.checked) Try.own started (by kernel_rfl) Try.func3
    (ChangeSpec.witness6 (enc := enc) (C := Try.checked) false ⟨#[], #[.string ⟨#[]⟩, .int .i64 0, .int .i64 0, .int .u64 0, .int .u64 0, .string ⟨#[]⟩, .string ⟨#[]⟩, .int .i64 0, .int .u64 0], []⟩ 8 (by kernel_rfl) (by kernel_rfl) (by kernel_rfl) (by kernel_rfl)) ?_
  intro W base args ds gs before hval0 hW _ _
  have hval : ∀ (j : Nat) t v, Try.f3.params[j]? = some t → args[j]? = some v → Value.okWide Try.prog W .any base t v := hval0
  have hW' := hW
  obtain ⟨p, q, hA0, hV, rfl, _, _⟩ := hW
  have hA : DataW.TrodAll enc Try.prog W 0 (fun _ => true) true Try.f3.params.toList args.toList ds p := hA0
  rw [Try.params3] at hA hval
  obtain ⟨rfl, rfl⟩ := trodVars_none hV
  have hAk := hA
  obtain ⟨v0, v1, v2, v3, v4, v5, v6, v7, v8, d0, d1, d2, d3, d4, d5, d6, d7, d8, p0, p1, p2, p3, p4, p5, p6, p7, p8, rfl, rfl, hp, h0, h1, h2, h3, h4, h5, h6, h7, h8⟩ := trodAll_nine hA
  have hlt : ∀ x ∈ p, x.block < W.heap.size := fun x hx => hW'.lt x (by simpa using hx)
  obtain ⟨s0, rfl, rfl, _, ws0⟩ := ChangeMaps.open_string Try.underlying9 (hval 0 9 v0 rfl rfl) h0
  unfold maxLen at ws0
  obtain ⟨l0, rfl, hz0⟩ := str_list s0
  have hl0 : (l0.length : Int) ≤ 9223372036854775807 := by omega
  obtain ⟨n1, rfl, rfl, _, wn1⟩ := open_int Try.underlying3 (hval 1 3 v1 rfl rfl) h1
  have hi1 := i64_bounds wn1
  obtain ⟨n2, rfl, rfl, _, wn2⟩ := open_int Try.underlying3 (hval 2 3 v2 rfl rfl) h2
  have hi2 := i64_bounds wn2
  obtain ⟨n3, rfl, rfl, _, wn3⟩ := open_int Try.underlying22 (hval 3 22 v3 rfl rfl) h3
  obtain ⟨m3, rfl, hm3⟩ := u64_nat wn3
  obtain ⟨n4, rfl, rfl, _, wn4⟩ := open_int Try.underlying22 (hval 4 22 v4 rfl rfl) h4
  obtain ⟨m4, rfl, hm4⟩ := u64_nat wn4
  obtain ⟨s5, rfl, rfl, _, ws5⟩ := ChangeMaps.open_string Try.underlying9 (hval 5 9 v5 rfl rfl) h5
  unfold maxLen at ws5
  obtain ⟨l5, rfl, hz5⟩ := str_list s5
  have hl5 : (l5.length : Int) ≤ 9223372036854775807 := by omega
  obtain ⟨s6, rfl, rfl, _, ws6⟩ := ChangeMaps.open_string Try.underlying9 (hval 6 9 v6 rfl rfl) h6
  unfold maxLen at ws6
  obtain ⟨l6, rfl, hz6⟩ := str_list s6
  have hl6 : (l6.length : Int) ≤ 9223372036854775807 := by omega
  obtain ⟨n7, rfl, rfl, _, wn7⟩ := open_int Try.underlying3 (hval 7 3 v7 rfl rfl) h7
  have hi7 := i64_bounds wn7
  obtain ⟨n8, rfl, rfl, _, wn8⟩ := open_int Try.underlying22 (hval 8 22 v8 rfl rfl) h8
  obtain ⟨m8, rfl, hm8⟩ := u64_nat wn8
  clear hA0 hval0
  refine (sback_any l0 l5 l6 n1 n2 n7 m3 m4 m8 W hl0 hl5 hl6 hm3 hm4 hm8).mono fun e W' ⟨he, hn⟩ => ?_
  subst he
  refine ⟨_, rfl, ?_⟩
  refine ⟨_, _, _, [], p, [], hW', ?_, trodAll_below_ Try.laidOut hn _ hAk (all_readable (by kernel_rfl)) hlt, rfl, hn.frame _, fun h => by cases h⟩
  exact trodAll_mk1 (shut_bool Try.underlying4 true)

/-- SealBack, for every input. -/
theorem sback_holds : Rows.SealBackSaid :=
  OpenClaim.holds_of_wide 3 Try.f3 rfl rfl rfl rfl rfl rfl rfl ⟨rfl, rfl, rfl, rfl, rfl⟩ rfl rfl rfl rfl rfl (by kernel_rfl) Try.func3 (by kernel_rfl)
    (of_decide_eq_true (by kernel_rfl)) (by unfold Func.isWrapper; rw [if_neg (of_decide_eq_false (by kernel_rfl))]; exact ⟨rfl, rfl⟩)
    (fun os started H enc _ => sback_lifted os started H enc)
#print axioms sback_holds
end Go.Proofs.Ytcecjoodlmpgnaa
