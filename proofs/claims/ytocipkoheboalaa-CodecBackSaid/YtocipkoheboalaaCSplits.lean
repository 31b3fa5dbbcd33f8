/- CodecSplits is true of every two texts, and leaves its arguments as they were. -/
import Derived.Test.YtocipkoheboalaaCSame
import Derived.Test.YtocipkoheboalaaCOpen
namespace Go.Proofs.Ytocipkoheboalaa
open Go.ChangeShapes Go.WideShapes Go.ChangeAt Go.RowKit Go.Joins Go.Deep

theorem split_len (s ks : List UInt8) : ∀ (n : Nat) (acc : List Fld), (splitGo s ks n acc).1.length ≤ acc.length + ks.length := by
  induction ks with
  | nil => intro n acc; rw [splitGo]; split <;> simp
  | cons k ks ih =>
    intro n acc
    rw [splitGo]
    split
    · simp
    · refine Nat.le_trans (ih _ _) ?_
      simp
      omega
theorem kind_or (ks : List UInt8) : (∀ k ∈ ks, Kind k) ∨ ∃ b, ∃ h : b < ks.length, (∀ k ∈ ks.take b, Kind k) ∧ ¬ Kind ks[b] := by
  induction ks with
  | nil => exact .inl (fun x hx => by cases hx)
  | cons y M ih =>
    by_cases hy : Kind y
    · rcases ih with h | ⟨b, hb, ho, ht⟩
      · refine .inl (fun x hx => ?_)
        rcases List.mem_cons.1 hx with rfl | hx
        · exact hy
        · exact h x hx
      · refine .inr ⟨b + 1, by simpa using hb, fun x hx => ?_, ht⟩
        rw [List.take_succ_cons] at hx
        rcases List.mem_cons.1 hx with rfl | hx
        · exact hy
        · exact ho x hx
    · exact .inr ⟨0, by simp, by simp, hy⟩

/-- What Split and the reference's tell is the same. -/
def Both (s ks : List UInt8) (R : List Fld × Nat × Int) : Prop :=
  (∀ w, Calls Try.prog 15 #[.string ⟨s.toArray⟩, .string ⟨ks.toArray⟩] w (SplitPost w R)) ∧ (∀ w, Calls Try.prog 16 #[.string ⟨s.toArray⟩, .string ⟨ks.toArray⟩] w (RPost w R)) ∧ R.1.length ≤ 60
theorem both_any (s ks : List UInt8) (hl : ks.length ≤ 60) (hs : (s.length : Int) ≤ 9223372036854775807) : ∃ R, Both s ks R := by
  rcases kind_or ks with h | ⟨b, hb, ho, hn⟩
  · exact ⟨_, fun w => split_ok s ks w _ rfl h hl hs, fun w => rsplit_ok s ks w _ rfl h hl hs, by have := split_len s ks 0 []; simp at this; omega⟩
  · exact ⟨_, fun w => split_bad s ks w b hb ho hn hl, fun w => rsplit_bad s ks w b hb ho hn hl, by simp⟩

set_option maxRecDepth 100000 in
set_option maxHeartbeats 4000000 in
theorem splits_any (s ks K : List UInt8) (m : Nat) (w : World) (hm : min (ks.length : Int) 30 = (m : Int)) (hK : ks.take m = K) (hl : (ks.length : Int) ≤ 9223372036854775807) (hs : (s.length : Int) ≤ 9223372036854775807) :
    Calls Try.prog 4 #[.string ⟨s.toArray⟩, .string ⟨ks.toArray⟩] w fun e w' => e = .returned (.bool true) ∧ Below w.heap.size w w' := by
  have hz := size_mk ks
  have hzs := size_mk s
  have hex := extract_take ks m
  have hKl : K.length ≤ 60 := by rw [← hK, List.length_take]; omega
  obtain ⟨⟨L, n, x⟩, hA, hB, hLl⟩ := both_any s K hKl hs
  rw [hK] at hex
  simp only at hLl
  have hmk : m ≤ ks.length := by omega
  have HA := Lib.hid hA
  have HB := Lib.hid hB
  clear hA hB hK hKl
  go_enter Try.func4, Try.ntmps4
  go_wp2_with fail
  refine (HA.out _).mono ?_
  rintro e w1 ⟨A, c, rfl, hF1, hc1, hb1⟩
  have HF1 := Lib.hid hF1
  clear hF1
  simp only at hc1
  go_wp2_with fail
  refine (HB.out _).mono ?_
  rintro e w2 ⟨B, d, rfl, hF2, hd1, hb2⟩
  have hB2 := bt hb1 hb2
  have HF2 := Lib.hid hF2
  simp only at hd1
  have r0 := At.new w2 #[.slice B L.length d, .int .i64 (n : Int), .int .i64 x] 40 (o := 0) rfl
  have r1 := At.new w2 #[.slice B L.length d, .int .i64 (n : Int), .int .i64 x] 40 (o := 1) rfl
  have r2 := At.new w2 #[.slice B L.length d, .int .i64 (n : Int), .int .i64 x] 40 (o := 2) rfl
  clear hF2
  go_wp2_with fail
  refine (alive_any _).mono ?_
  rintro e w3 ⟨rfl, hb3⟩
  have q0 := (r0.later hb3).1
  have q1 := (r1.later hb3).1
  have q2 := (r2.later hb3).1
  have hB3 := bt (ba hB2 _) hb3
  have HG1 := Lib.hid (((HF1.out.later hb2).later (ba (Below.refl _ _) (.cells #[.slice B L.length d, .int .i64 (n : Int), .int .i64 x] 40))).later hb3)
  have HG2 := Lib.hid ((HF2.out.later (ba (Below.refl _ _) (.cells #[.slice B L.length d, .int .i64 (n : Int), .int .i64 x] 40))).later hb3)
  clear r0 r1 r2 hb1 hb2 hb3 hB2
  go_wp2_with fail
  refine (same_any A B c d L L _ HG1.out HG2.out rfl (fun j h => SameF.refl _) (by omega)).mono ?_
  rintro e w4 ⟨rfl, hb4⟩
  go_wp2
  go_ret
  exact ⟨by simp, bt hB3 hb4⟩

set_option maxHeartbeats 1000000 in
set_option maxRecDepth 100000 in
theorem splits_lifted (os : Os) (started : os.Started) (H : Type) (enc : TypeId × Value → H) :
    ReturnsInHanded {} Try.checked os 4 .any (Rows.codecSplitsSpec.pre6 enc Try.prog Try.f4 Rows.codecSplitsRow.domain false) (Rows.codecSplitsSpec.post enc Try.prog Try.f4 false true false false) := by
  refine returnsInHanded_of_change (C := Try.checked) Try.own started (by kernel_rfl) Try.func4
    (ChangeSpec.witness6 (enc := enc) (C := Try.checked) false ⟨#[], #[.string ⟨#[]⟩, .string ⟨#[]⟩], []⟩ 8 (by kernel_rfl) (by kernel_rfl) (by kernel_rfl) (by kernel_rfl)) ?_
  intro W base args ds gs before hval0 hW _ _
  have hval : ∀ (j : Nat) t v, Try.f4.params[j]? = some t → args[j]? = some v → Value.okWide Try.prog W .any base t v := hval0
  have hW' := hW
  obtain ⟨p, q, hA0, hV, rfl, _, _⟩ := hW
  have hA : DataW.TrodAll enc Try.prog W 0 (fun _ => true) true Try.f4.params.toList args.toList ds p := hA0
  rw [Try.params4] at hA hval
  obtain ⟨v0, v1, d0, d1, p0, p1, rfl, rfl, rfl, h0, h1⟩ := trodAll_two hA
  obtain ⟨rfl, rfl⟩ := trodVars_none hV
  obtain ⟨s, rfl, rfl, rfl, ws⟩ := ChangeMaps.open_string Try.underlying9 (hval 0 9 v0 rfl rfl) h0
  obtain ⟨k, rfl, rfl, rfl, wk⟩ := ChangeMaps.open_string Try.underlying9 (hval 1 9 v1 rfl rfl) h1
  clear hA0 hval0
  simp only [List.append_nil] at hW'
  obtain ⟨l, rfl, hl⟩ := str_list s
  obtain ⟨ks, rfl, hk⟩ := str_list k
  have ws' := ws
  have wk' := wk
  unfold maxLen at ws' wk'
  refine (splits_any l ks _ (min ks.length 30) W (by omega) rfl (by omega) (by omega)).mono fun e W' ⟨he, hn⟩ => ?_
  subst he
  refine ⟨_, rfl, ?_⟩
  refine ⟨_, _, _, [], [], [], hW', ?_, trodAll_mk2 (ChangeMaps.shut_string Try.underlying9 ws) (ChangeMaps.shut_string Try.underlying9 wk), rfl, hn.frame _, fun h => by cases h⟩
  exact trodAll_mk1 (shut_bool Try.underlying4 true)

/-- CodecSplits, for every two texts. -/
theorem splits_holds : Rows.CodecSplitsSaid :=
  OpenClaim.holds_of_wide 4 Try.f4 rfl rfl rfl rfl rfl rfl rfl ⟨rfl, rfl, rfl, rfl, rfl⟩ rfl rfl rfl rfl rfl (by kernel_rfl) Try.func4 (by kernel_rfl)
    (of_decide_eq_true (by kernel_rfl)) (by unfold Func.isWrapper; rw [if_neg (of_decide_eq_false (by kernel_rfl))]; exact ⟨rfl, rfl⟩)
    (fun os started H enc _ => splits_lifted os started H enc)
#print axioms splits_holds
end Go.Proofs.Ytocipkoheboalaa
