/- GcmSeals is true of every key, nonce, head and text, and leaves them as they were. -/
import Derived.Test.YtnifgfnocdffcaaQ14
import Derived.Test.YtnifgfnocdffcaaQ17
namespace Go.Proofs.Ytnifgfnocdffcaa
open Go.ChangeShapes Go.WideShapes Go.ChangeAt Go.RowKit Go.Joins Go.Deep

set_option maxRecDepth 100000 in
set_option maxHeartbeats 4000000 in
theorem kseals_any (k0 n0 h0 t0 : List UInt8) (w : World) (hk0 : (k0.length : Int) ≤ 9223372036854775807) (hn0 : (n0.length : Int) ≤ 9223372036854775807) (hh0 : (h0.length : Int) ≤ 9223372036854775807) (ht0 : (t0.length : Int) ≤ 9223372036854775807) :
    Calls Try.prog 4 #[.string ⟨k0.toArray⟩, .string ⟨n0.toArray⟩, .string ⟨h0.toArray⟩, .string ⟨t0.toArray⟩] w fun e w' => e = .returned (.bool true) ∧ Below w.heap.size w w' := by
  have HC1 := Lib.hid (fun W => kcut_any k0 W hk0)
  have HC2 := Lib.hid (fun W => kcut_any n0 W hn0)
  have HL := Lib.hid kalive_any
  generalize k0.take 70 = key at HC1
  generalize n0.take 70 = nonce at HC2
  have H2 := Lib.hid (fun W => rmay_any key nonce W)
  have hsh := size_of h0
  have hst := size_of t0
  by_cases hc : h0.length ≤ 4096 ∧ t0.length ≤ 4096
  · obtain ⟨c1, c2⟩ := hc
    have HC3 := Lib.hid (fun W => kcut_any h0 W hh0)
    have HC4 := Lib.hid (fun W => kcut_any t0 W ht0)
    have lh : (h0.take 70).length ≤ 70 := by rw [List.length_take]; omega
    have lt : (t0.take 70).length ≤ 70 := by rw [List.length_take]; omega
    generalize h0.take 70 = head at HC3 lh
    generalize t0.take 70 = text at HC4 lt
    obtain ⟨m, hm⟩ : ∃ m, h0.length = m := ⟨_, rfl⟩
    obtain ⟨n, hn⟩ : ∃ n, t0.length = n := ⟨_, rfl⟩
    rw [hm] at hsh c1
    rw [hn] at hst c2
    have g1 : (m : Int) ≤ 4096 := by omega
    have g2 : (n : Int) ≤ 4096 := by omega
    clear hm hn hh0 ht0 hk0 hn0 c1 c2
    have hsh2 := size_of head
    have hst2 := size_of text
    by_cases hf : kfit key nonce = true
    · rw [hf] at H2
      obtain ⟨hk, hn12⟩ := kfit_yes hf
      have H1 := Lib.hid (fun W => seal_yes key nonce head text W hf (by omega) (by omega))
      have H3 := Lib.hid (fun W => rseal_any key nonce head text W hk hn12 (by omega) (by omega))
      generalize sealL (encL key) nonce head text = R at H1 H3
      obtain ⟨p, hp⟩ : ∃ p, head.length = p := ⟨_, rfl⟩
      obtain ⟨q, hq⟩ : ∃ q, text.length = q := ⟨_, rfl⟩
      rw [hp] at hsh2 lh
      rw [hq] at hst2 lt
      have g3 : (p : Int) ≤ 4096 := by omega
      have g4 : (q : Int) ≤ 4096 := by omega
      clear hf hk hn12 hp hq lh lt
      go_enter Try.func4, Try.ntmps4
      go_wp2_with fail
      refine (HC1.out _).mono ?_
      rintro e w0 ⟨rfl, rfl⟩
      go_wp2_with fail
      refine (HC2.out _).mono ?_
      rintro e w0 ⟨rfl, rfl⟩
      go_wp2_with fail
      refine (HC3.out _).mono ?_
      rintro e w0 ⟨rfl, rfl⟩
      go_wp2_with fail
      refine (HC4.out _).mono ?_
      rintro e w0 ⟨rfl, rfl⟩
      go_wp2_with fail
      refine (H1.out _).mono ?_
      rintro e w1 ⟨rfl, hb1⟩
      go_wp2_with fail
      refine (H2.out _).mono ?_
      rintro e w0 ⟨rfl, rfl⟩
      go_wp2_with fail
      refine (HL.out _).mono ?_
      rintro e w2 ⟨rfl, hb2⟩
      go_wp2_with fail
      refine (H3.out _).mono ?_
      rintro e w3 ⟨rfl, hb3⟩
      go_wp2_with fail
      go_ret
      exact ⟨rfl, bt (bt hb1 hb2) hb3⟩
    · have H1 := Lib.hid (fun W => seal_no key nonce head text W (fun q => hf q.1))
      have hf' : kfit key nonce = false := by simpa using hf
      rw [hf'] at H2
      clear hf hf' lh lt
      go_enter Try.func4, Try.ntmps4
      go_wp2_with fail
      refine (HC1.out _).mono ?_
      rintro e w0 ⟨rfl, rfl⟩
      go_wp2_with fail
      refine (HC2.out _).mono ?_
      rintro e w0 ⟨rfl, rfl⟩
      go_wp2_with fail
      refine (HC3.out _).mono ?_
      rintro e w0 ⟨rfl, rfl⟩
      go_wp2_with fail
      refine (HC4.out _).mono ?_
      rintro e w0 ⟨rfl, rfl⟩
      go_wp2_with fail
      refine (H1.out _).mono ?_
      rintro e w1 ⟨rfl, hb1⟩
      go_wp2_with fail
      refine (H2.out _).mono ?_
      rintro e w0 ⟨rfl, rfl⟩
      go_wp2_with fail
      refine (HL.out _).mono ?_
      rintro e w2 ⟨rfl, hb2⟩
      go_wp2_with fail
      go_ret
      exact ⟨rfl, bt hb1 hb2⟩
  · by_cases hf : kfit key nonce = true
    · rw [hf] at H2
      have H1 := Lib.hid (fun W => seal_no key nonce h0 t0 W (fun q => hc q.2))
      obtain ⟨m, hm⟩ : ∃ m, h0.length = m := ⟨_, rfl⟩
      obtain ⟨n, hn⟩ : ∃ n, t0.length = n := ⟨_, rfl⟩
      rw [hm] at hsh hc
      rw [hn] at hst hc
      clear hf hm hn hk0 hn0 hh0 ht0
      by_cases hc1 : m ≤ 4096
      · have g1 : (m : Int) ≤ 4096 := by omega
        have g2 : (4096 : Int) < (n : Int) := by
          have : ¬ n ≤ 4096 := fun h => hc ⟨hc1, h⟩
          omega
        clear hc hc1
        go_enter Try.func4, Try.ntmps4
        go_wp2_with fail
        refine (HC1.out _).mono ?_
        rintro e w0 ⟨rfl, rfl⟩
        go_wp2_with fail
        refine (HC2.out _).mono ?_
        rintro e w0 ⟨rfl, rfl⟩
        go_wp2_with fail
        refine (H1.out _).mono ?_
        rintro e w1 ⟨rfl, hb1⟩
        go_wp2_with fail
        refine (H2.out _).mono ?_
        rintro e w0 ⟨rfl, rfl⟩
        go_wp2_with fail
        refine (HL.out _).mono ?_
        rintro e w2 ⟨rfl, hb2⟩
        go_wp2_with fail
        go_ret
        exact ⟨rfl, bt hb1 hb2⟩
      · have g2 : (4096 : Int) < (m : Int) := by omega
        clear hc hc1
        go_enter Try.func4, Try.ntmps4
        go_wp2_with fail
        refine (HC1.out _).mono ?_
        rintro e w0 ⟨rfl, rfl⟩
        go_wp2_with fail
        refine (HC2.out _).mono ?_
        rintro e w0 ⟨rfl, rfl⟩
        go_wp2_with fail
        refine (H1.out _).mono ?_
        rintro e w1 ⟨rfl, hb1⟩
        go_wp2_with fail
        refine (H2.out _).mono ?_
        rintro e w0 ⟨rfl, rfl⟩
        go_wp2_with fail
        refine (HL.out _).mono ?_
        rintro e w2 ⟨rfl, hb2⟩
        go_wp2_with fail
        go_ret
        exact ⟨rfl, bt hb1 hb2⟩
    · have hf' : kfit key nonce = false := by simpa using hf
      rw [hf'] at H2
      have H1 := Lib.hid (fun W => seal_no key nonce h0 t0 W (fun q => hf q.1))
      obtain ⟨m, hm⟩ : ∃ m, h0.length = m := ⟨_, rfl⟩
      obtain ⟨n, hn⟩ : ∃ n, t0.length = n := ⟨_, rfl⟩
      rw [hm] at hsh hc
      rw [hn] at hst hc
      clear hf hf' hm hn hk0 hn0 hh0 ht0
      by_cases hc1 : m ≤ 4096
      · have g1 : (m : Int) ≤ 4096 := by omega
        have g2 : (4096 : Int) < (n : Int) := by
          have : ¬ n ≤ 4096 := fun h => hc ⟨hc1, h⟩
          omega
        clear hc hc1
        go_enter Try.func4, Try.ntmps4
        go_wp2_with fail
        refine (HC1.out _).mono ?_
        rintro e w0 ⟨rfl, rfl⟩
        go_wp2_with fail
        refine (HC2.out _).mono ?_
        rintro e w0 ⟨rfl, rfl⟩
        go_wp2_with fail
        refine (H1.out _).mono ?_
        rintro e w1 ⟨rfl, hb1⟩
        go_wp2_with fail
        refine (H2.out _).mono ?_
        rintro e w0 ⟨rfl, rfl⟩
        go_wp2_with fail
        refine (HL.out _).mono ?_
        rintro e w2 ⟨rfl, hb2⟩
        go_wp2_with fail
        go_ret
        exact ⟨rfl, bt hb1 hb2⟩
      · have g2 : (4096 : Int) < (m : Int) := by omega
        clear hc hc1
        go_enter Try.func4, Try.ntmps4
        go_wp2_with fail
        refine (HC1.out _).mono ?_
        rintro e w0 ⟨rfl, rfl⟩
        go_wp2_with fail
        refine (HC2.out _).mono ?_
        rintro e w0 ⟨rfl, rfl⟩
        go_wp2_with fail
        refine (H1.out _).mono ?_
        rintro e w1 ⟨rfl, hb1⟩
        go_wp2_with fail
        refine (H2.out _).mono ?_
        rintro e w0 ⟨rfl, rfl⟩
        go_wp2_with fail
        refine (HL.out _).mono ?_
        rintro e w2 ⟨rfl, hb2⟩
        go_wp2_with fail
        go_ret
        exact ⟨rfl, bt hb1 hb2⟩

set_option maxHeartbeats 1000000 in
set_option maxRecDepth 100000 in
theorem seals_lifted (os : Os) (started : os.Started) (H : Type) (enc : TypeId × Value → H) :
    ReturnsInHanded {} Try.checked os 4 .any (Rows.gcmSealsSpec.pre6 enc Try.prog Try.f4 Rows.gcmSealsRow.domain false) (Rows.gcmSealsSpec.post enc Try.prog Try.f4 false true false false) := by
  refine returnsInHanded_of_change (C := Try.checked) Try.own started (by kernel_rfl) Try.func4
    (ChangeSpec.witness6 (enc := enc) (C := Try.checked) false ⟨#[], #[.string ⟨#[]⟩, .string ⟨#[]⟩, .string ⟨#[]⟩, .string ⟨#[]⟩], []⟩ 8 (by kernel_rfl) (by kernel_rfl) (by kernel_rfl) (by kernel_rfl)) ?_
  intro W base args ds gs before hval0 hW _ _
  have hval : ∀ (j : Nat) t v, Try.f4.params[j]? = some t → args[j]? = some v → Value.okWide Try.prog W .any base t v := hval0
  have hW' := hW
  obtain ⟨p, q, hA0, hV, rfl, _, _⟩ := hW
  have hA : DataW.TrodAll enc Try.prog W 0 (fun _ => true) true Try.f4.params.toList args.toList ds p := hA0
  rw [Try.params4] at hA hval
  obtain ⟨rfl, rfl⟩ := trodVars_none hV
  have hAk := hA
  obtain ⟨v0, v1, v2, v3, d0, d1, d2, d3, p0, p1, p2, p3, rfl, rfl, hp, h0, h1, h2, h3⟩ := trodAll_four hA
  have hlt : ∀ x ∈ p, x.block < W.heap.size := fun x hx => hW'.lt x (by simpa using hx)
  obtain ⟨s0, rfl, rfl, _, ws0⟩ := ChangeMaps.open_string Try.underlying9 (hval 0 9 v0 rfl rfl) h0
  unfold maxLen at ws0
  obtain ⟨l0, rfl, hz0⟩ := str_list s0
  have hl0 : (l0.length : Int) ≤ 9223372036854775807 := by omega
  obtain ⟨s1, rfl, rfl, _, ws1⟩ := ChangeMaps.open_string Try.underlying9 (hval 1 9 v1 rfl rfl) h1
  unfold maxLen at ws1
  obtain ⟨l1, rfl, hz1⟩ := str_list s1
  have hl1 : (l1.length : Int) ≤ 9223372036854775807 := by omega
  obtain ⟨s2, rfl, rfl, _, ws2⟩ := ChangeMaps.open_string Try.underlying9 (hval 2 9 v2 rfl rfl) h2
  unfold maxLen at ws2
  obtain ⟨l2, rfl, hz2⟩ := str_list s2
  have hl2 : (l2.length : Int) ≤ 9223372036854775807 := by omega
  obtain ⟨s3, rfl, rfl, _, ws3⟩ := ChangeMaps.open_string Try.underlying9 (hval 3 9 v3 rfl rfl) h3
  unfold maxLen at ws3
  obtain ⟨l3, rfl, hz3⟩ := str_list s3
  have hl3 : (l3.length : Int) ≤ 9223372036854775807 := by omega
  clear hA0 hval0
  refine (kseals_any l0 l1 l2 l3 W hl0 hl1 hl2 hl3).mono fun e W' ⟨he, hn⟩ => ?_
  subst he
  refine ⟨_, rfl, ?_⟩
  refine ⟨_, _, _, [], p, [], hW', ?_, trodAll_below_ Try.laidOut hn _ hAk (all_readable (by kernel_rfl)) hlt, rfl, hn.frame _, fun h => by cases h⟩
  exact trodAll_mk1 (shut_bool Try.underlying4 true)

/-- GcmSeals, for every input. -/
theorem seals_holds : Rows.GcmSealsSaid :=
  OpenClaim.holds_of_wide 4 Try.f4 rfl rfl rfl rfl rfl rfl rfl ⟨rfl, rfl, rfl, rfl, rfl⟩ rfl rfl rfl rfl rfl (by kernel_rfl) Try.func4 (by kernel_rfl)
    (of_decide_eq_true (by kernel_rfl)) (by unfold Func.isWrapper; rw [if_neg (of_decide_eq_false (by kernel_rfl))]; exact ⟨rfl, rfl⟩)
    (fun os started H enc _ => seals_lifted os started H enc)
#print axioms seals_holds
end Go.Proofs.Ytnifgfnocdffcaa
