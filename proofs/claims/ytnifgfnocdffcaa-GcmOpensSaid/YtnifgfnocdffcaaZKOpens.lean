/- GcmOpens is true of every key, nonce, head and text, and leaves them as they were. -/
import Derived.Test.YtnifgfnocdffcaaQ14
import Derived.Test.YtnifgfnocdffcaaQ17
namespace Go.Proofs.Ytnifgfnocdffcaa
open Go.ChangeShapes Go.WideShapes Go.ChangeAt Go.RowKit Go.Joins Go.Deep

set_option maxRecDepth 100000 in
set_option maxHeartbeats 4000000 in
theorem kopens_any (k0 n0 h0 s0 : List UInt8) (w : World) (hk0 : (k0.length : Int) ≤ 9223372036854775807) (hn0 : (n0.length : Int) ≤ 9223372036854775807) (hh0 : (h0.length : Int) ≤ 9223372036854775807) (hs0 : (s0.length : Int) ≤ 9223372036854775807) :
    Calls Try.prog 5 #[.string ⟨k0.toArray⟩, .string ⟨n0.toArray⟩, .string ⟨h0.toArray⟩, .string ⟨s0.toArray⟩] w fun e w' => e = .returned (.bool true) ∧ Below w.heap.size w w' := by
  have HC1 := Lib.hid (fun W => kcut_any k0 W hk0)
  have HC2 := Lib.hid (fun W => kcut_any n0 W hn0)
  have HL := Lib.hid kalive_any
  generalize k0.take 70 = key at HC1
  generalize n0.take 70 = nonce at HC2
  have H2 := Lib.hid (fun W => rmay_any key nonce W)
  have hsh := size_of h0
  have hst := size_of s0
  by_cases hc : h0.length ≤ 4096 ∧ s0.length ≤ 4112
  · obtain ⟨c1, c2⟩ := hc
    have HC3 := Lib.hid (fun W => kcut_any h0 W hh0)
    have lh : (h0.take 70).length ≤ 70 := by rw [List.length_take]; omega
    have lt : (s0.take 90).length ≤ 90 := by rw [List.length_take]; omega
    generalize h0.take 70 = head at HC3 lh
    obtain ⟨m, hm⟩ : ∃ m, h0.length = m := ⟨_, rfl⟩
    obtain ⟨n, hn⟩ : ∃ n, s0.length = n := ⟨_, rfl⟩
    obtain ⟨r, hr⟩ : ∃ r, min n 90 = r := ⟨_, rfl⟩
    have hex := extract_take s0 r
    have he : s0.take r = s0.take 90 := by
      rw [← hr]
      by_cases h : n ≤ 90
      · rw [Nat.min_eq_left h, List.take_of_length_le (by omega), List.take_of_length_le (by omega)]
      · rw [Nat.min_eq_right (by omega)]
    rw [he] at hex
    generalize s0.take 90 = sealed at hex lt
    rw [hm] at hsh c1
    rw [hn] at hst c2
    have g1 : (m : Int) ≤ 4096 := by omega
    have g2 : (n : Int) ≤ 4112 := by omega
    have g5 : min (n : Int) 90 = (r : Int) := by omega
    have g6 : (r : Int) ≤ (n : Int) := by omega
    have g7 : r ≤ n := by omega
    clear hm hn hh0 hs0 hk0 hn0 c1 c2 he hr
    have hsh2 := size_of head
    have hst2 := size_of sealed
    by_cases hf : kfit key nonce = true
    · rw [hf] at H2
      obtain ⟨hk, hn12⟩ := kfit_yes hf
      by_cases h16 : 16 ≤ sealed.length
      · have H1 := Lib.hid (fun W => open_yes key nonce head sealed W hf (by omega) h16 (by omega))
        have H3 := Lib.hid (fun W => ropen_any key nonce head sealed W hk hn12 (by omega) h16 (by omega))
        generalize openL (encL key) nonce head sealed = o at H1 H3
        obtain ⟨p, hp⟩ : ∃ p, head.length = p := ⟨_, rfl⟩
        obtain ⟨q, hq⟩ : ∃ q, sealed.length = q := ⟨_, rfl⟩
        rw [hp] at hsh2 lh
        rw [hq] at hst2 lt h16
        have g3 : (p : Int) ≤ 4096 := by omega
        have g4 : (q : Int) ≤ 4112 := by omega
        have g8 : (16 : Int) ≤ (q : Int) := by omega
        clear hf hk hn12 hp hq lh lt h16
        cases o with
        | some t =>
          have e1 : openR (some t) = .tuple #[.string ⟨t.toArray⟩, .int .i64 0] := rfl
          have e2 : ropenR (some t) = .agg #[.string ⟨t.toArray⟩, .bool true] := rfl
          rw [e1] at H1
          rw [e2] at H3
          clear e1 e2
          go_enter Try.func5, Try.ntmps5
          go_wp2_with fail
          refine (HC1.out _).mono ?_
          rintro e w0 ⟨rfl, rfl⟩
          go_wp2_with fail
          refine (HC2.out _).mono ?_
          rintro e w0 ⟨rfl, rfl⟩
          go_wp2_with fail
          go_region_held3 (fun _ => True) (trivial) (first | (go_at_call 7; refine (HC3.out _).mono ?_; rintro e w0 ⟨rfl, rfl⟩))
          all_goals
            go_wp2_with fail
            refine (H1.out _).mono ?_
            rintro e w1 ⟨rfl, hb1⟩
            have hb1 := kdrew hb1
            go_wp2_with fail
            refine (H2.out _).mono ?_
            rintro e w0 ⟨rfl, rfl⟩
            go_wp2_with fail
            refine (H3.out _).mono ?_
            rintro e w3 ⟨rfl, hb3⟩
            have hB3 := bt hb1 hb3
            clear hb1 hb3
            have A3 := Lib.hid (Blk.new w3 35 #[.string ⟨t.toArray⟩, .bool true])
            have hB4 := ba hB3 (.cells #[.string ⟨t.toArray⟩, .bool true] 35)
            have HA := Lib.hid (HL.out (w3.alloc (.cells #[.string ⟨t.toArray⟩, .bool true] 35)))
            go_wp2_with fail
            refine (HL.out _).mono ?_
            rintro e w5 ⟨rfl, hb5⟩
            have B5 := A3.out.below hb5
            have c0 := B5.cell 0
            have c1 := B5.cell 1
            have hB5 := bt hB4 hb5
            clear A3 HA HC1 HC2 HC3 H1 H2 H3 HL B5 hb5 hB4 hB3
            go_wp2_with fail
            go_ret
            exact ⟨rfl, hB5⟩
        | none =>
          have e1 : openR none = .tuple #[.string ⟨#[]⟩, .int .i64 5] := rfl
          have e2 : ropenR none = .agg #[.string ⟨#[]⟩, .bool false] := rfl
          rw [e1] at H1
          rw [e2] at H3
          clear e1 e2
          go_enter Try.func5, Try.ntmps5
          go_wp2_with fail
          refine (HC1.out _).mono ?_
          rintro e w0 ⟨rfl, rfl⟩
          go_wp2_with fail
          refine (HC2.out _).mono ?_
          rintro e w0 ⟨rfl, rfl⟩
          go_wp2_with fail
          go_region_held3 (fun _ => True) (trivial) (first | (go_at_call 7; refine (HC3.out _).mono ?_; rintro e w0 ⟨rfl, rfl⟩))
          all_goals
            go_wp2_with fail
            refine (H1.out _).mono ?_
            rintro e w1 ⟨rfl, hb1⟩
            have hb1 := kdrew hb1
            go_wp2_with fail
            refine (H2.out _).mono ?_
            rintro e w0 ⟨rfl, rfl⟩
            go_wp2_with fail
            refine (H3.out _).mono ?_
            rintro e w3 ⟨rfl, hb3⟩
            have hB3 := bt hb1 hb3
            clear hb1 hb3
            have A3 := Lib.hid (Blk.new w3 35 #[.string ⟨#[]⟩, .bool false])
            have hB4 := ba hB3 (.cells #[.string ⟨#[]⟩, .bool false] 35)
            have HA := Lib.hid (HL.out (w3.alloc (.cells #[.string ⟨#[]⟩, .bool false] 35)))
            go_wp2_with fail
            refine (HL.out _).mono ?_
            rintro e w5 ⟨rfl, hb5⟩
            have B5 := A3.out.below hb5
            have c0 := B5.cell 0
            have c1 := B5.cell 1
            have hB5 := bt hB4 hb5
            clear A3 HA HC1 HC2 HC3 H1 H2 H3 HL B5 hb5 hB4 hB3
            go_wp2_with fail
            go_ret
            exact ⟨rfl, hB5⟩
      · have H1 := Lib.hid (fun W => open_no key nonce head sealed W (by omega) (fun q => h16 q.2.2.1))
        obtain ⟨p, hp⟩ : ∃ p, head.length = p := ⟨_, rfl⟩
        obtain ⟨q, hq⟩ : ∃ q, sealed.length = q := ⟨_, rfl⟩
        rw [hp] at hsh2 lh
        rw [hq] at hst2 lt h16
        have g3 : (p : Int) ≤ 4096 := by omega
        have g4 : (q : Int) ≤ 4112 := by omega
        have g8 : (q : Int) < 16 := by omega
        clear hf hk hn12 hp hq lh lt h16
        go_enter Try.func5, Try.ntmps5
        go_wp2_with fail
        refine (HC1.out _).mono ?_
        rintro e w0 ⟨rfl, rfl⟩
        go_wp2_with fail
        refine (HC2.out _).mono ?_
        rintro e w0 ⟨rfl, rfl⟩
        go_wp2_with fail
        go_region_held3 (fun _ => True) (trivial) (first | (go_at_call 7; refine (HC3.out _).mono ?_; rintro e w0 ⟨rfl, rfl⟩))
        all_goals
          go_wp2_with fail
          refine (H1.out _).mono ?_
          rintro e w1 ⟨rfl, hb1⟩
          have hb1 := kdrew hb1
          go_wp2_with fail
          refine (H2.out _).mono ?_
          rintro e w0 ⟨rfl, rfl⟩
          go_wp2_with fail
          refine (HL.out _).mono ?_
          rintro e w2 ⟨rfl, hb2⟩
          go_wp2_with fail
          go_ret
          exact ⟨rfl, bt hb1 hb2⟩
    · have H1 := Lib.hid (fun W => open_no key nonce head sealed W (by omega) (fun q => hf q.1))
      have hf' : kfit key nonce = false := by simpa using hf
      rw [hf'] at H2
      clear hf hf' lh lt
      go_enter Try.func5, Try.ntmps5
      go_wp2_with fail
      refine (HC1.out _).mono ?_
      rintro e w0 ⟨rfl, rfl⟩
      go_wp2_with fail
      refine (HC2.out _).mono ?_
      rintro e w0 ⟨rfl, rfl⟩
      go_wp2_with fail
      go_region_held3 (fun _ => True) (trivial) (first | (go_at_call 7; refine (HC3.out _).mono ?_; rintro e w0 ⟨rfl, rfl⟩))
      all_goals
        go_wp2_with fail
        refine (H1.out _).mono ?_
        rintro e w1 ⟨rfl, hb1⟩
        have hb1 := kdrew hb1
        go_wp2_with fail
        refine (H2.out _).mono ?_
        rintro e w0 ⟨rfl, rfl⟩
        go_wp2_with fail
        refine (HL.out _).mono ?_
        rintro e w2 ⟨rfl, hb2⟩
        go_wp2_with fail
        go_ret
        exact ⟨rfl, bt hb1 hb2⟩
  · by_cases hf : kfit key nonce = true
    · rw [hf] at H2
      have H1 := Lib.hid (fun W => open_no key nonce h0 s0 W hs0 (fun q => hc ⟨q.2.1, q.2.2.2⟩))
      obtain ⟨m, hm⟩ : ∃ m, h0.length = m := ⟨_, rfl⟩
      obtain ⟨n, hn⟩ : ∃ n, s0.length = n := ⟨_, rfl⟩
      rw [hm] at hsh hc
      rw [hn] at hst hc
      clear hf hm hn hk0 hn0 hh0 hs0
      by_cases hc1 : m ≤ 4096
      · have g1 : (m : Int) ≤ 4096 := by omega
        have g2 : (4112 : Int) < (n : Int) := by
          have : ¬ n ≤ 4112 := fun h => hc ⟨hc1, h⟩
          omega
        clear hc hc1
        go_enter Try.func5, Try.ntmps5
        go_wp2_with fail
        refine (HC1.out _).mono ?_
        rintro e w0 ⟨rfl, rfl⟩
        go_wp2_with fail
        refine (HC2.out _).mono ?_
        rintro e w0 ⟨rfl, rfl⟩
        go_wp2_with fail
        refine (H1.out _).mono ?_
        rintro e w1 ⟨rfl, hb1⟩
        go_wp2_with fail
        refine (H2.out _).mono ?_
        rintro e w0 ⟨rfl, rfl⟩
        go_wp2_with fail
        refine (HL.out _).mono ?_
        rintro e w2 ⟨rfl, hb2⟩
        go_wp2_with fail
        go_ret
        exact ⟨rfl, bt hb1 hb2⟩
      · have g2 : (4096 : Int) < (m : Int) := by omega
        clear hc hc1
        go_enter Try.func5, Try.ntmps5
        go_wp2_with fail
        refine (HC1.out _).mono ?_
        rintro e w0 ⟨rfl, rfl⟩
        go_wp2_with fail
        refine (HC2.out _).mono ?_
        rintro e w0 ⟨rfl, rfl⟩
        go_wp2_with fail
        refine (H1.out _).mono ?_
        rintro e w1 ⟨rfl, hb1⟩
        go_wp2_with fail
        refine (H2.out _).mono ?_
        rintro e w0 ⟨rfl, rfl⟩
        go_wp2_with fail
        refine (HL.out _).mono ?_
        rintro e w2 ⟨rfl, hb2⟩
        go_wp2_with fail
        go_ret
        exact ⟨rfl, bt hb1 hb2⟩
    · have hf' : kfit key nonce = false := by simpa using hf
      rw [hf'] at H2
      have H1 := Lib.hid (fun W => open_no key nonce h0 s0 W hs0 (fun q => hf q.1))
      obtain ⟨m, hm⟩ : ∃ m, h0.length = m := ⟨_, rfl⟩
      obtain ⟨n, hn⟩ : ∃ n, s0.length = n := ⟨_, rfl⟩
      rw [hm] at hsh hc
      rw [hn] at hst hc
      clear hf hf' hm hn hk0 hn0 hh0 hs0
      by_cases hc1 : m ≤ 4096
      · have g1 : (m : Int) ≤ 4096 := by omega
        have g2 : (4112 : Int) < (n : Int) := by
          have : ¬ n ≤ 4112 := fun h => hc ⟨hc1, h⟩
          omega
        clear hc hc1
        go_enter Try.func5, Try.ntmps5
        go_wp2_with fail
        refine (HC1.out _).mono ?_
        rintro e w0 ⟨rfl, rfl⟩
        go_wp2_with fail
        refine (HC2.out _).mono ?_
        rintro e w0 ⟨rfl, rfl⟩
        go_wp2_with fail
        refine (H1.out _).mono ?_
        rintro e w1 ⟨rfl, hb1⟩
        go_wp2_with fail
        refine (H2.out _).mono ?_
        rintro e w0 ⟨rfl, rfl⟩
        go_wp2_with fail
        refine (HL.out _).mono ?_
        rintro e w2 ⟨rfl, hb2⟩
        go_wp2_with fail
        go_ret
        exact ⟨rfl, bt hb1 hb2⟩
      · have g2 : (4096 : Int) < (m : Int) := by omega
        clear hc hc1
        go_enter Try.func5, Try.ntmps5
        go_wp2_with fail
        refine (HC1.out _).mono ?_
        rintro e w0 ⟨rfl, rfl⟩
        go_wp2_with fail
        refine (HC2.out _).mono ?_
        rintro e w0 ⟨rfl, rfl⟩
        go_wp2_with fail
        refine (H1.out _).mono ?_
        rintro e w1 ⟨rfl, hb1⟩
        go_wp2_with fail
        refine (H2.out _).mono ?_
        rintro e w0 ⟨rfl, rfl⟩
        go_wp2_with fail
        refine (HL.out _).mono ?_
        rintro e w2 ⟨rfl, hb2⟩
        go_wp2_with fail
        go_ret
        exact ⟨rfl, bt hb1 hb2⟩

set_option maxHeartbeats 1000000 in
set_option maxRecDepth 100000 in
theorem opens_lifted (os : Os) (started : os.Started) (H : Type) (enc : TypeId × Value → H) :
    ReturnsInHanded {} Try.checked os 5 .any (Rows.gcmOpensSpec.pre6 enc Try.prog Try.f5 Rows.gcmOpensRow.domain false) (Rows.gcmOpensSpec.post enc Try.prog Try.f5 false true false false) := by
  refine returnsInHanded_of_change (C := Try.checked) Try.own started (by kernel_rfl) Try.func5
    (ChangeSpec.witness6 (enc := enc) (C := Try.checked) false ⟨#[], #[.string ⟨#[]⟩, .string ⟨#[]⟩, .string ⟨#[]⟩, .string ⟨#[]⟩], []⟩ 8 (by kernel_rfl) (by kernel_rfl) (by kernel_rfl) (by kernel_rfl)) ?_
  intro W base args ds gs before hval0 hW _ _
  have hval : ∀ (j : Nat) t v, Try.f5.params[j]? = some t → args[j]? = some v → Value.okWide Try.prog W .any base t v := hval0
  have hW' := hW
  obtain ⟨p, q, hA0, hV, rfl, _, _⟩ := hW
  have hA : DataW.TrodAll enc Try.prog W 0 (fun _ => true) true Try.f5.params.toList args.toList ds p := hA0
  rw [Try.params5] at hA hval
  obtain ⟨rfl, rfl⟩ := trodVars_none hV
  have hAk := hA
  obtain ⟨v0, v1, v2, v3, d0, d1, d2, d3, p0, p1, p2, p3, rfl, rfl, hp, h0, h1, h2, h3⟩ := trodAll_four hA
  have hlt : ∀ x ∈ p, x.block < W.heap.size := fun x hx => hW'.lt x (by simpa using hx)
  obtain ⟨s0, rfl, rfl, _, ws0⟩ := ChangeMaps.open_string Try.underlying9 (hval 0 9 v0 rfl rfl) h0
  unfold maxLen at ws0
  obtain ⟨l0, rfl, hz0⟩ := str_list s0
  have hl0 : (l0.length : Int) ≤ 9223372036854775807 := by omega
  obtain ⟨s1, rfl, rfl, _, ws1⟩ := ChangeMaps.open_string Try.underlying9 (hval 1 9 v1 rfl rfl) h1
  unfold maxLen at ws1
  obtain ⟨l1, rfl, hz1⟩ := str_list s1
  have hl1 : (l1.length : Int) ≤ 9223372036854775807 := by omega
  obtain ⟨s2, rfl, rfl, _, ws2⟩ := ChangeMaps.open_string Try.underlying9 (hval 2 9 v2 rfl rfl) h2
  unfold maxLen at ws2
  obtain ⟨l2, rfl, hz2⟩ := str_list s2
  have hl2 : (l2.length : Int) ≤ 9223372036854775807 := by omega
  obtain ⟨s3, rfl, rfl, _, ws3⟩ := ChangeMaps.open_string Try.underlying9 (hval 3 9 v3 rfl rfl) h3
  unfold maxLen at ws3
  obtain ⟨l3, rfl, hz3⟩ := str_list s3
  have hl3 : (l3.length : Int) ≤ 9223372036854775807 := by omega
  clear hA0 hval0
  refine (kopens_any l0 l1 l2 l3 W hl0 hl1 hl2 hl3).mono fun e W' ⟨he, hn⟩ => ?_
  subst he
  refine ⟨_, rfl, ?_⟩
  refine ⟨_, _, _, [], p, [], hW', ?_, trodAll_below_ Try.laidOut hn _ hAk (all_readable (by kernel_rfl)) hlt, rfl, hn.frame _, fun h => by cases h⟩
  exact trodAll_mk1 (shut_bool Try.underlying4 true)

/-- GcmOpens, for every input. -/
theorem opens_holds : Rows.GcmOpensSaid :=
  OpenClaim.holds_of_wide 5 Try.f5 rfl rfl rfl rfl rfl rfl rfl ⟨rfl, rfl, rfl, rfl, rfl⟩ rfl rfl rfl rfl rfl (by kernel_rfl) Try.func5 (by kernel_rfl)
    (of_decide_eq_true (by kernel_rfl)) (by unfold Func.isWrapper; rw [if_neg (of_decide_eq_false (by kernel_rfl))]; exact ⟨rfl, rfl⟩)
    (fun os started H enc _ => opens_lifted os started H enc)
#print axioms opens_holds
end Go.Proofs.Ytnifgfnocdffcaa
