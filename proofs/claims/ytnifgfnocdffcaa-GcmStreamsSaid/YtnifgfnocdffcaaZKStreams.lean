/- GcmStreams is true of every key, nonce, number and size, and leaves them as they were. -/
import Derived.Test.YtnifgfnocdffcaaQ14
import Derived.Test.YtnifgfnocdffcaaQ17
namespace Go.Proofs.Ytnifgfnocdffcaa
open Go.ChangeShapes Go.WideShapes Go.ChangeAt Go.RowKit Go.Joins Go.Deep

set_option maxRecDepth 100000 in
set_option maxHeartbeats 2000000 in
theorem kstreams_yes (k0 n0 : List UInt8) (key nonce : List UInt8) (c m : Nat) (n : Int) (w : World) (hk0 : (k0.length : Int) ≤ 9223372036854775807) (hn0 : (n0.length : Int) ≤ 9223372036854775807) (hkk : k0.take 70 = key) (hnn : n0.take 70 = nonce) (hf : kfit key nonce = true) (hc : c < 4294967296) (hm : m ≤ 80) (hnm : (n = (m : Int)) ∨ (80 < n ∧ n ≤ 5000 ∧ m = 80)) :
    Calls Try.prog 3 #[.string ⟨k0.toArray⟩, .string ⟨n0.toArray⟩, .int .u32 (c : Int), .int .i64 n] w fun e w' => e = .returned (.bool true) ∧ Below w.heap.size w w' := by
  have HC1 := Lib.hid (fun W => kcut_any k0 W hk0)
  have HC2 := Lib.hid (fun W => kcut_any n0 W hn0)
  rw [hkk] at HC1
  rw [hnn] at HC2
  have H1 := Lib.hid (fun W => stream_yes key nonce c m W hf hc hm)
  have H2 := Lib.hid (fun W => rmay_any key nonce W)
  rw [hf] at H2
  have HL := Lib.hid kalive_any
  obtain ⟨hk, hn12⟩ := kfit_yes hf
  have H3 := Lib.hid (fun W => rstream_any key nonce c m W hk hn12 hc (by omega))
  generalize strL (encL key) nonce c m = R at H1 H3
  clear hf hk hn12 hkk hnn hk0 hn0 hc
  rcases hnm with rfl | ⟨h1, h2, rfl⟩
  · have g1 : ¬ (80 : Int) < (m : Int) := by omega
    have g2 : (0 : Int) ≤ (m : Int) := by omega
    have g3 : (m : Int) ≤ 5000 := by omega
    clear hm
    go_enter Try.func3, Try.ntmps3
    go_wp2_with fail
    refine (HC1.out _).mono ?_
    rintro e w0 ⟨rfl, rfl⟩
    go_wp2_with fail
    refine (HC2.out _).mono ?_
    rintro e w0 ⟨rfl, rfl⟩
    go_wp2_with fail
    refine (H1.out _).mono ?_
    rintro e w1 ⟨rfl, hb1⟩
    go_wp2_with fail
    refine (H2.out _).mono ?_
    rintro e w0 ⟨rfl, rfl⟩
    go_wp2_with fail
    refine (HL.out _).mono ?_
    rintro e w2 ⟨rfl, hb2⟩
    go_wp2_with fail
    refine (H3.out _).mono ?_
    rintro e w3 ⟨rfl, hb3⟩
    go_wp2_with fail
    go_ret
    exact ⟨rfl, bt (bt hb1 hb2) hb3⟩
  · clear hm
    go_enter Try.func3, Try.ntmps3
    go_wp2_with fail
    refine (HC1.out _).mono ?_
    rintro e w0 ⟨rfl, rfl⟩
    go_wp2_with fail
    refine (HC2.out _).mono ?_
    rintro e w0 ⟨rfl, rfl⟩
    go_wp2_with fail
    refine (H1.out _).mono ?_
    rintro e w1 ⟨rfl, hb1⟩
    go_wp2_with fail
    refine (H2.out _).mono ?_
    rintro e w0 ⟨rfl, rfl⟩
    go_wp2_with fail
    refine (HL.out _).mono ?_
    rintro e w2 ⟨rfl, hb2⟩
    go_wp2_with fail
    refine (H3.out _).mono ?_
    rintro e w3 ⟨rfl, hb3⟩
    go_wp2_with fail
    go_ret
    exact ⟨rfl, bt (bt hb1 hb2) hb3⟩

set_option maxRecDepth 100000 in
set_option maxHeartbeats 2000000 in
theorem kstreams_no (k0 n0 : List UInt8) (key nonce : List UInt8) (c : Nat) (n : Int) (w : World) (hk0 : (k0.length : Int) ≤ 9223372036854775807) (hn0 : (n0.length : Int) ≤ 9223372036854775807) (hkk : k0.take 70 = key) (hnn : n0.take 70 = nonce) (h : ¬ (kfit key nonce = true ∧ 0 ≤ n ∧ n ≤ 5000)) :
    Calls Try.prog 3 #[.string ⟨k0.toArray⟩, .string ⟨n0.toArray⟩, .int .u32 (c : Int), .int .i64 n] w fun e w' => e = .returned (.bool true) ∧ Below w.heap.size w w' := by
  have HC1 := Lib.hid (fun W => kcut_any k0 W hk0)
  have HC2 := Lib.hid (fun W => kcut_any n0 W hn0)
  rw [hkk] at HC1
  rw [hnn] at HC2
  have H2 := Lib.hid (fun W => rmay_any key nonce W)
  have HL := Lib.hid kalive_any
  by_cases hf : kfit key nonce = true
  · rw [hf] at H2
    have H1 := Lib.hid (fun W => stream_no key nonce c n W h)
    by_cases h0 : 0 ≤ n
    · have h5 : 5000 < n := by
        have : ¬ n ≤ 5000 := fun h5 => h ⟨hf, h0, h5⟩
        omega
      have g1 : 80 < n := by omega
      clear h hf hkk hnn hk0 hn0
      go_enter Try.func3, Try.ntmps3
      go_wp2_with fail
      refine (HC1.out _).mono ?_
      rintro e w0 ⟨rfl, rfl⟩
      go_wp2_with fail
      refine (HC2.out _).mono ?_
      rintro e w0 ⟨rfl, rfl⟩
      go_wp2_with fail
      refine (H1.out _).mono ?_
      rintro e w1 ⟨rfl, hb1⟩
      go_wp2_with fail
      refine (H2.out _).mono ?_
      rintro e w0 ⟨rfl, rfl⟩
      go_wp2_with fail
      refine (HL.out _).mono ?_
      rintro e w2 ⟨rfl, hb2⟩
      go_wp2_with fail
      go_ret
      exact ⟨rfl, bt hb1 hb2⟩
    · have h5 : n < 0 := by omega
      have g1 : ¬ 80 < n := by omega
      clear h hf hkk hnn hk0 hn0 h0
      go_enter Try.func3, Try.ntmps3
      go_wp2_with fail
      refine (HC1.out _).mono ?_
      rintro e w0 ⟨rfl, rfl⟩
      go_wp2_with fail
      refine (HC2.out _).mono ?_
      rintro e w0 ⟨rfl, rfl⟩
      go_wp2_with fail
      refine (H1.out _).mono ?_
      rintro e w1 ⟨rfl, hb1⟩
      go_wp2_with fail
      refine (H2.out _).mono ?_
      rintro e w0 ⟨rfl, rfl⟩
      go_wp2_with fail
      refine (HL.out _).mono ?_
      rintro e w2 ⟨rfl, hb2⟩
      go_wp2_with fail
      go_ret
      exact ⟨rfl, bt hb1 hb2⟩
  · have hf' : kfit key nonce = false := by simpa using hf
    rw [hf'] at H2
    by_cases h1 : 80 < n
    · by_cases h2 : n ≤ 5000
      · have H1 := Lib.hid (fun W => stream_no key nonce c 80 W (fun q => hf q.1))
        clear h hf hf' hkk hnn hk0 hn0
        go_enter Try.func3, Try.ntmps3
        go_wp2_with fail
        refine (HC1.out _).mono ?_
        rintro e w0 ⟨rfl, rfl⟩
        go_wp2_with fail
        refine (HC2.out _).mono ?_
        rintro e w0 ⟨rfl, rfl⟩
        go_wp2_with fail
        refine (H1.out _).mono ?_
        rintro e w1 ⟨rfl, hb1⟩
        go_wp2_with fail
        refine (H2.out _).mono ?_
        rintro e w0 ⟨rfl, rfl⟩
        go_wp2_with fail
        refine (HL.out _).mono ?_
        rintro e w2 ⟨rfl, hb2⟩
        go_wp2_with fail
        go_ret
        exact ⟨rfl, bt hb1 hb2⟩
      · have H1 := Lib.hid (fun W => stream_no key nonce c n W h)
        have g2 : 5000 < n := by omega
        clear h hf hf' hkk hnn hk0 hn0 h2
        go_enter Try.func3, Try.ntmps3
        go_wp2_with fail
        refine (HC1.out _).mono ?_
        rintro e w0 ⟨rfl, rfl⟩
        go_wp2_with fail
        refine (HC2.out _).mono ?_
        rintro e w0 ⟨rfl, rfl⟩
        go_wp2_with fail
        refine (H1.out _).mono ?_
        rintro e w1 ⟨rfl, hb1⟩
        go_wp2_with fail
        refine (H2.out _).mono ?_
        rintro e w0 ⟨rfl, rfl⟩
        go_wp2_with fail
        refine (HL.out _).mono ?_
        rintro e w2 ⟨rfl, hb2⟩
        go_wp2_with fail
        go_ret
        exact ⟨rfl, bt hb1 hb2⟩
    · have H1 := Lib.hid (fun W => stream_no key nonce c n W h)
      clear h hf hf' hkk hnn hk0 hn0
      go_enter Try.func3, Try.ntmps3
      go_wp2_with fail
      refine (HC1.out _).mono ?_
      rintro e w0 ⟨rfl, rfl⟩
      go_wp2_with fail
      refine (HC2.out _).mono ?_
      rintro e w0 ⟨rfl, rfl⟩
      go_wp2_with fail
      refine (H1.out _).mono ?_
      rintro e w1 ⟨rfl, hb1⟩
      go_wp2_with fail
      refine (H2.out _).mono ?_
      rintro e w0 ⟨rfl, rfl⟩
      go_wp2_with fail
      refine (HL.out _).mono ?_
      rintro e w2 ⟨rfl, hb2⟩
      go_wp2_with fail
      go_ret
      exact ⟨rfl, bt hb1 hb2⟩

theorem kstreams_any (k0 n0 : List UInt8) (c : Nat) (n : Int) (w : World) (hk0 : (k0.length : Int) ≤ 9223372036854775807) (hn0 : (n0.length : Int) ≤ 9223372036854775807) (hc : c < 4294967296) :
    Calls Try.prog 3 #[.string ⟨k0.toArray⟩, .string ⟨n0.toArray⟩, .int .u32 (c : Int), .int .i64 n] w fun e w' => e = .returned (.bool true) ∧ Below w.heap.size w w' := by
  by_cases h : kfit (k0.take 70) (n0.take 70) = true ∧ 0 ≤ n ∧ n ≤ 5000
  · obtain ⟨hf, h0, h5⟩ := h
    by_cases h8 : n ≤ 80
    · obtain ⟨m, rfl⟩ : ∃ m : Nat, n = (m : Int) := ⟨n.toNat, by omega⟩
      exact kstreams_yes k0 n0 _ _ c m _ w hk0 hn0 rfl rfl hf hc (by omega) (.inl rfl)
    · exact kstreams_yes k0 n0 _ _ c 80 _ w hk0 hn0 rfl rfl hf hc (by omega) (.inr ⟨by omega, h5, rfl⟩)
  · exact kstreams_no k0 n0 _ _ c n w hk0 hn0 rfl rfl h

set_option maxHeartbeats 1000000 in
set_option maxRecDepth 100000 in
theorem streams_lifted (os : Os) (started : os.Started) (H : Type) (enc : TypeId × Value → H) :
    ReturnsInHanded {} Try.checked os 3 .any (Rows.gcmStreamsSpec.pre6 enc Try.prog Try.f3 Rows.gcmStreamsRow.domain false) (Rows.gcmStreamsSpec.post enc Try.prog Try.f3 false true false false) := by
  refine returnsInHanded_of_change (C := Try.checked) Try.own started (by kernel_rfl) Try.func3
    (ChangeSpec.witness6 (enc := enc) (C := Try.checked) false ⟨#[], #[.string ⟨#[]⟩, .string ⟨#[]⟩, .int .u32 0, .int .i64 0], []⟩ 8 (by kernel_rfl) (by kernel_rfl) (by kernel_rfl) (by kernel_rfl)) ?_
  intro W base args ds gs before hval0 hW _ _
  have hval : ∀ (j : Nat) t v, Try.f3.params[j]? = some t → args[j]? = some v → Value.okWide Try.prog W .any base t v := hval0
  have hW' := hW
  obtain ⟨p, q, hA0, hV, rfl, _, _⟩ := hW
  have hA : DataW.TrodAll enc Try.prog W 0 (fun _ => true) true Try.f3.params.toList args.toList ds p := hA0
  rw [Try.params3] at hA hval
  obtain ⟨rfl, rfl⟩ := trodVars_none hV
  have hAk := hA
  obtain ⟨v0, v1, v2, v3, d0, d1, d2, d3, p0, p1, p2, p3, rfl, rfl, hp, h0, h1, h2, h3⟩ := trodAll_four hA
  have hlt : ∀ x ∈ p, x.block < W.heap.size := fun x hx => hW'.lt x (by simpa using hx)
  obtain ⟨s0, rfl, rfl, _, ws0⟩ := ChangeMaps.open_string Try.underlying9 (hval 0 9 v0 rfl rfl) h0
  unfold maxLen at ws0
  obtain ⟨l0, rfl, hz0⟩ := str_list s0
  have hl0 : (l0.length : Int) ≤ 9223372036854775807 := by omega
  obtain ⟨s1, rfl, rfl, _, ws1⟩ := ChangeMaps.open_string Try.underlying9 (hval 1 9 v1 rfl rfl) h1
  unfold maxLen at ws1
  obtain ⟨l1, rfl, hz1⟩ := str_list s1
  have hl1 : (l1.length : Int) ≤ 9223372036854775807 := by omega
  obtain ⟨n2, rfl, rfl, _, wn2⟩ := open_int Try.underlying22 (hval 2 22 v2 rfl rfl) h2
  obtain ⟨m2, rfl, hm2⟩ := u32_nat wn2
  obtain ⟨n3, rfl, rfl, _, wn3⟩ := open_int Try.underlying3 (hval 3 3 v3 rfl rfl) h3
  have hi3 := i64_bounds wn3
  clear hA0 hval0
  refine (kstreams_any l0 l1 m2 n3 W hl0 hl1 hm2).mono fun e W' ⟨he, hn⟩ => ?_
  subst he
  refine ⟨_, rfl, ?_⟩
  refine ⟨_, _, _, [], p, [], hW', ?_, trodAll_below_ Try.laidOut hn _ hAk (all_readable (by kernel_rfl)) hlt, rfl, hn.frame _, fun h => by cases h⟩
  exact trodAll_mk1 (shut_bool Try.underlying4 true)

/-- GcmStreams, for every input. -/
theorem streams_holds : Rows.GcmStreamsSaid :=
  OpenClaim.holds_of_wide 3 Try.f3 rfl rfl rfl rfl rfl rfl rfl ⟨rfl, rfl, rfl, rfl, rfl⟩ rfl rfl rfl rfl rfl (by kernel_rfl) Try.func3 (by kernel_rfl)
    (of_decide_eq_true (by kernel_rfl)) (by unfold Func.isWrapper; rw [if_neg (of_decide_eq_false (by kernel_rfl))]; exact ⟨rfl, rfl⟩)
    (fun os started H enc _ => streams_lifted os started H enc)
#print axioms streams_holds
end Go.Proofs.Ytnifgfnocdffcaa
