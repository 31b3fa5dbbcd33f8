/- AesKeys is true of every text, and leaves it as it was. -/
import Derived.Test.YtodolffolbkaaaaAAlive
import Derived.Test.YtodolffolbkaaaaARKeys
import Derived.Test.YtodolffolbkaaaaARSame
namespace Go.Proofs.Ytodolffolbkaaaa
open Go.ChangeShapes Go.WideShapes Go.ChangeAt Go.RowKit Go.Joins Go.Deep

set_option maxRecDepth 100000 in
set_option maxHeartbeats 2000000 in
theorem akeys_any (l : List UInt8) (w : World) (hl : (l.length : Int) ≤ 9223372036854775807) :
    Calls Try.prog 3 #[.string ⟨l.toArray⟩] w fun e w' => e = .returned (.bool true) ∧ Below w.heap.size w w' := by
  have HC := Lib.hid (cut_any l w hl)
  generalize l.take 40 = b at HC
  have HL := Lib.hid alive_any
  by_cases hk : b.length = 16 ∨ b.length = 32
  · have H1 := Lib.hid (fun W => keys_yes b W hk)
    have H2 := Lib.hid (fun W => rKey_yes b W hk)
    have H3 := Lib.hid (fun W => rKeys_any b (b.length / 4 + 7) W hk rfl)
    have HLL := Lib.hid (keysL_len b)
    have hn15 : b.length / 4 + 7 ≤ 15 := by omega
    generalize keysL b = D at H1 H3 HLL
    generalize b.length / 4 + 7 = n at H1 H3 HLL hn15
    clear hk
    go_enter Try.func3, Try.ntmps3
    go_wp2_with fail
    refine HC.out.mono ?_
    rintro e w0 ⟨rfl, rfl⟩
    go_wp2_with fail
    refine (H1.out _).mono ?_
    rintro e w1 ⟨g, c, rfl, ho1, hb1⟩
    have HS1 := Lib.hid (own_SR ho1 HLL.out)
    clear ho1
    go_wp2_with fail
    refine (H2.out _).mono ?_
    rintro e w2 ⟨rfl, rfl⟩
    go_wp2_with fail
    refine (HL.out _).mono ?_
    rintro e w3 ⟨rfl, hb3⟩
    have HS3 := Lib.hid (HS1.out.later hb3)
    clear HS1
    go_wp2_with fail
    refine (H3.out _).mono ?_
    rintro e w4 ⟨g4, c4, rfl, ho4, hb4⟩
    have HS4 := Lib.hid (HS3.out.later hb4)
    have HT4 := Lib.hid (own_SR ho4 HLL.out)
    clear HS3 ho4
    go_wp2_with fail
    refine (rsame_any _ _ c c4 n D w4 HS4.out HT4.out HLL.out (by omega)).mono ?_
    rintro e w5 ⟨rfl, hb5⟩
    go_wp2_with fail
    go_ret
    exact ⟨rfl, bt (bt (bt hb1 hb3) hb4) hb5⟩
  · have H1 := Lib.hid (fun W => keys_no b W hk)
    have H2 := Lib.hid (fun W => rKey_no b W hk)
    clear hk
    go_enter Try.func3, Try.ntmps3
    go_wp2_with fail
    refine HC.out.mono ?_
    rintro e w0 ⟨rfl, rfl⟩
    go_wp2_with fail
    refine (H1.out _).mono ?_
    rintro e w1 ⟨rfl, hb1⟩
    go_wp2_with fail
    refine (H2.out _).mono ?_
    rintro e w2 ⟨rfl, rfl⟩
    go_wp2_with fail
    refine (HL.out _).mono ?_
    rintro e w3 ⟨rfl, hb3⟩
    go_wp2_with fail
    go_ret
    exact ⟨rfl, bt hb1 hb3⟩

set_option maxHeartbeats 1000000 in
set_option maxRecDepth 100000 in
theorem akeys_lifted (os : Os) (started : os.Started) (H : Type) (enc : TypeId × Value → H) :
    ReturnsInHanded {} Try.checked os 3 .any (Rows.aesKeysSpec.pre6 enc Try.prog Try.f3 Rows.aesKeysRow.domain false) (Rows.aesKeysSpec.post enc Try.prog Try.f3 false true false false) := by
  refine returnsInHanded_of_change (C := Try.checked) Try.own started (by kernel_rfl) Try.func3
    (ChangeSpec.witness6 (enc := enc) (C := Try.checked) false ⟨#[], #[.string ⟨#[]⟩], []⟩ 8 (by kernel_rfl) (by kernel_rfl) (by kernel_rfl) (by kernel_rfl)) ?_
  intro W base args ds gs before hval0 hW _ _
  have hval : ∀ (j : Nat) t v, Try.f3.params[j]? = some t → args[j]? = some v → Value.okWide Try.prog W .any base t v := hval0
  have hW' := hW
  obtain ⟨p, q, hA0, hV, rfl, _, _⟩ := hW
  have hA : DataW.TrodAll enc Try.prog W 0 (fun _ => true) true Try.f3.params.toList args.toList ds p := hA0
  rw [Try.params3] at hA hval
  obtain ⟨rfl, rfl⟩ := trodVars_none hV
  have hAk := hA
  obtain ⟨v0, d0, rfl, rfl, h0⟩ := trodAll_one hA
  have hlt : ∀ x ∈ p, x.block < W.heap.size := fun x hx => hW'.lt x (by simpa using hx)
  obtain ⟨s0, rfl, rfl, _, ws0⟩ := ChangeMaps.open_string Try.underlying9 (hval 0 9 v0 rfl rfl) h0
  unfold maxLen at ws0
  obtain ⟨l0, rfl, hz0⟩ := str_list s0
  have hl0 : (l0.length : Int) ≤ 9223372036854775807 := by omega
  clear hA0 hval0
  refine (akeys_any l0 W hl0).mono fun e W' ⟨he, hn⟩ => ?_
  subst he
  refine ⟨_, rfl, ?_⟩
  refine ⟨_, _, _, [], p, [], hW', ?_, trodAll_below_ Try.laidOut hn _ hAk (all_readable (by kernel_rfl)) hlt, rfl, hn.frame _, fun h => by cases h⟩
  exact trodAll_mk1 (shut_bool Try.underlying4 true)

/-- AesKeys, for every input. -/
theorem akeys_holds : Rows.AesKeysSaid :=
  OpenClaim.holds_of_wide 3 Try.f3 rfl rfl rfl rfl rfl rfl rfl ⟨rfl, rfl, rfl, rfl, rfl⟩ rfl rfl rfl rfl rfl (by kernel_rfl) Try.func3 (by kernel_rfl)
    (of_decide_eq_true (by kernel_rfl)) (by unfold Func.isWrapper; rw [if_neg (of_decide_eq_false (by kernel_rfl))]; exact ⟨rfl, rfl⟩)
    (fun os started H enc _ => akeys_lifted os started H enc)
#print axioms akeys_holds
end Go.Proofs.Ytodolffolbkaaaa
