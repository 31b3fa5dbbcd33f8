/- AesFours is true of every text, and leaves it as it was. -/
import Derived.Test.YtodolffolbkaaaaAAlive
import Derived.Test.YtodolffolbkaaaaAFour
namespace Go.Proofs.Ytodolffolbkaaaa
open Go.ChangeShapes Go.WideShapes Go.ChangeAt Go.RowKit Go.Joins Go.Deep

theorem itF_len {f : List UInt8 → List UInt8} (hf : ∀ s, (f s).length = 16) (s : List UInt8) (hs : s.length = 16) (k : Nat) : (itF f k s).length = 16 := by
  cases k with
  | zero => exact hs
  | succ k => exact hf _

set_option maxRecDepth 100000 in
set_option maxHeartbeats 2000000 in
theorem afours_any (l : List UInt8) (w : World) (hl : (l.length : Int) ≤ 9223372036854775807) :
    Calls Try.prog 6 #[.string ⟨l.toArray⟩] w fun e w' => e = .returned (.bool true) ∧ Below w.heap.size w w' := by
  have HC := Lib.hid (cut_any l w hl)
  generalize l.take 40 = b at HC
  have HL := Lib.hid alive_any
  by_cases hb : b.length = 16
  · have HT := Lib.hid (fun k W => turn_yes (itF turnG k b) W (itF_len (fun _ => tab_len _ _) b hb k))
    have HM := Lib.hid (fun k W => mix_yes (itF mixG k b) W (itF_len (fun _ => tab_len _ _) b hb k))
    have HT4 := Lib.hid (turnG_four b hb)
    have HM4 := Lib.hid (mixG_four b hb)
    have HT0 : Hid (itF turnG 0 b = b) := Lib.hid rfl
    have HM0 : Hid (itF mixG 0 b = b) := Lib.hid rfl
    have HTS : Hid (∀ k, turnG (itF turnG k b) = itF turnG (k + 1) b) := Lib.hid fun _ => rfl
    have HMS : Hid (∀ k, mixG (itF mixG k b) = itF mixG (k + 1) b) := Lib.hid fun _ => rfl
    clear hb
    go_enter Try.func6, Try.ntmps6
    go_wp2_with fail
    refine HC.out.mono ?_
    rintro e w0 ⟨rfl, rfl⟩
    go_wp2_with fail
    go_loopw [3, 4, 13] (fun av bv iv wr => ∃ k : Nat, k ≤ 4 ∧ iv = .int .i64 k ∧ av = .string ⟨(itF turnG k b).toArray⟩ ∧ bv = .string ⟨(itF mixG k b).toArray⟩ ∧ Below w.heap.size w wr) (fun _ _ iv _ => 4 - (intOf iv).toNat)
    case atStart => exact ⟨0, by omega, rfl, by rw [HT0.out], by rw [HM0.out], Below.refl _ _⟩
    case round =>
      obtain ⟨k, hk, rfl, rfl, rfl, hbb⟩ := hrel
      by_cases hlt : k < 4
      · have hki : (k : Int) < 4 := by omega
        have H1 := Lib.hid (HT.out k)
        have H2 := Lib.hid (HM.out k)
        have HTK := Lib.hid (HTS.out k)
        have HMK := Lib.hid (HMS.out k)
        generalize itF turnG k b = T at H1 HTK ⊢
        generalize itF mixG k b = M at H2 HMK ⊢
        go_wp2_with fail
        refine (H1.out _).mono ?_
        rintro e w1 ⟨rfl, hb1⟩
        go_wp2_with fail
        refine (H2.out _).mono ?_
        rintro e w2 ⟨rfl, hb2⟩
        go_wp2_with fail
        exact ⟨⟨k + 1, by omega, by go_num, by rw [HTK.out], by rw [HMK.out], bt (bt hbb hb1) hb2⟩, by simp [intOf]; omega⟩
      · obtain rfl : k = 4 := by omega
        rw [HT4.out, HM4.out]
        clear HT0 HM0 HTS HMS HT HM
        go_wp2_with fail
        refine (HL.out _).mono ?_
        rintro e w1 ⟨rfl, hb1⟩
        go_wp2_with fail
        go_ret
        exact ⟨rfl, bt hbb hb1⟩
  · have H1 := Lib.hid (fun W => turn_no b W hb)
    have H2 := Lib.hid (fun W => mix_no b W hb)
    have hs := size_of b
    obtain ⟨n, hn⟩ : ∃ n, b.length = n := ⟨_, rfl⟩
    rw [hn] at hs hb
    have hd : ((n : Int) != 16) = true := by simp; omega
    have hd2 : ¬ n = 16 := hb
    clear hn hb
    go_enter Try.func6, Try.ntmps6
    go_wp2_with fail
    refine HC.out.mono ?_
    rintro e w0 ⟨rfl, rfl⟩
    go_wp2_with fail
    go_loopw [3, 4, 13] (fun av bv iv wr => av = .string ⟨b.toArray⟩ ∧ bv = .string ⟨b.toArray⟩ ∧ iv = .int .i64 0 ∧ w = wr) (fun _ _ iv _ => 4 - (intOf iv).toNat)
    case atStart => exact ⟨rfl, rfl, rfl, rfl⟩
    case round =>
      obtain ⟨rfl, rfl, rfl, rfl⟩ := hrel
      go_wp2_with fail
      refine (H1.out _).mono ?_
      rintro e w1 ⟨rfl, hb1⟩
      go_wp2_with fail
      refine (H2.out _).mono ?_
      rintro e w2 ⟨rfl, hb2⟩
      go_wp2_with fail
      refine (HL.out _).mono ?_
      rintro e w3 ⟨rfl, hb3⟩
      go_wp2_with fail
      go_ret
      exact ⟨rfl, bt (bt hb1 hb2) hb3⟩

set_option maxHeartbeats 1000000 in
set_option maxRecDepth 100000 in
theorem afours_lifted (os : Os) (started : os.Started) (H : Type) (enc : TypeId × Value → H) :
    ReturnsInHanded {} Try.checked os 6 .any (Rows.aesFoursSpec.pre6 enc Try.prog Try.f6 Rows.aesFoursRow.domain false) (Rows.aesFoursSpec.post enc Try.prog Try.f6 false true false false) := by
  refine returnsInHanded_of_change (C := Try.checked) Try.own started (by kernel_rfl) Try.func6
    (ChangeSpec.witness6 (enc := enc) (C := Try.checked) false ⟨#[], #[.string ⟨#[]⟩], []⟩ 8 (by kernel_rfl) (by kernel_rfl) (by kernel_rfl) (by kernel_rfl)) ?_
  intro W base args ds gs before hval0 hW _ _
  have hval : ∀ (j : Nat) t v, Try.f6.params[j]? = some t → args[j]? = some v → Value.okWide Try.prog W .any base t v := hval0
  have hW' := hW
  obtain ⟨p, q, hA0, hV, rfl, _, _⟩ := hW
  have hA : DataW.TrodAll enc Try.prog W 0 (fun _ => true) true Try.f6.params.toList args.toList ds p := hA0
  rw [Try.params6] at hA hval
  obtain ⟨rfl, rfl⟩ := trodVars_none hV
  have hAk := hA
  obtain ⟨v0, d0, rfl, rfl, h0⟩ := trodAll_one hA
  have hlt : ∀ x ∈ p, x.block < W.heap.size := fun x hx => hW'.lt x (by simpa using hx)
  obtain ⟨s0, rfl, rfl, _, ws0⟩ := ChangeMaps.open_string Try.underlying9 (hval 0 9 v0 rfl rfl) h0
  unfold maxLen at ws0
  obtain ⟨l0, rfl, hz0⟩ := str_list s0
  have hl0 : (l0.length : Int) ≤ 9223372036854775807 := by omega
  clear hA0 hval0
  refine (afours_any l0 W hl0).mono fun e W' ⟨he, hn⟩ => ?_
  subst he
  refine ⟨_, rfl, ?_⟩
  refine ⟨_, _, _, [], p, [], hW', ?_, trodAll_below_ Try.laidOut hn _ hAk (all_readable (by kernel_rfl)) hlt, rfl, hn.frame _, fun h => by cases h⟩
  exact trodAll_mk1 (shut_bool Try.underlying4 true)

/-- AesFours, for every input. -/
theorem afours_holds : Rows.AesFoursSaid :=
  OpenClaim.holds_of_wide 6 Try.f6 rfl rfl rfl rfl rfl rfl rfl ⟨rfl, rfl, rfl, rfl, rfl⟩ rfl rfl rfl rfl rfl (by kernel_rfl) Try.func6 (by kernel_rfl)
    (of_decide_eq_true (by kernel_rfl)) (by unfold Func.isWrapper; rw [if_neg (of_decide_eq_false (by kernel_rfl))]; exact ⟨rfl, rfl⟩)
    (fun os started H enc _ => afours_lifted os started H enc)
#print axioms afours_holds
end Go.Proofs.Ytodolffolbkaaaa
