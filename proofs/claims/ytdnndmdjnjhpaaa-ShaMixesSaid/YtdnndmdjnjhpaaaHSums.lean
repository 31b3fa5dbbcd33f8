/- ShaSums is true of every text, and leaves it as it was. -/
import Derived.Test.YtdnndmdjnjhpaaaHCut
import Derived.Test.YtdnndmdjnjhpaaaHWords
namespace Go.Proofs.Ytdnndmdjnjhpaaa
open Go.ChangeShapes Go.WideShapes Go.ChangeAt Go.RowKit Go.Joins Go.Deep

theorem rwords_holds : RWords := fun b w hb => (words_any b hb w).mono fun _ _ ⟨g, c, he, ho, hbl⟩ => ⟨g, c, he, fun _ hj => own_wn ho (sched_len b 64) hj, hbl⟩

set_option maxRecDepth 100000 in
set_option maxHeartbeats 2000000 in
theorem sums_any (s : List UInt8) (w : World) (hs : (s.length : Int) ≤ 9223372036854775807) :
    Calls Try.prog 5 #[.string ⟨s.toArray⟩] w fun e w' => e = .returned (.bool true) ∧ Below w.heap.size w w' := by
  have HA := Lib.hid (cut_any s w hs)
  have hl1 : (s.take 400).length ≤ 400 := by rw [List.length_take]; omega
  generalize s.take 400 = S at HA hl1
  have HP := Lib.hid (fun W => pad_any S W (by omega))
  have HQ := Lib.hid (fun W => rpad_any S W (by omega))
  have HS := Lib.hid (fun W => sum_any S W (by omega))
  have HR := Lib.hid (fun W => rsum_any rwords_holds S W (by omega))
  generalize padL S = P at HP HQ
  generalize sumL S = T at HS HR
  clear hs hl1
  go_enter Try.func5, Try.ntmps5
  go_wp2_with fail
  refine HA.out.mono ?_
  rintro e w1 ⟨rfl, rfl⟩
  go_wp2_with fail
  refine (alive_any _).mono ?_
  rintro e w2 ⟨rfl, hb2⟩
  go_wp2_with fail
  refine (HP.out _).mono ?_
  rintro e w3 ⟨rfl, hb3⟩
  have hB3 := bt hb2 hb3
  clear hb2 hb3
  go_wp2_with fail
  refine (HQ.out _).mono ?_
  rintro e w4 ⟨rfl, hb4⟩
  have hB4 := bt hB3 hb4
  clear hB3 hb4
  go_wp2_with fail
  refine (HS.out _).mono ?_
  rintro e w5 ⟨rfl, hb5⟩
  have hB5 := bt hB4 hb5
  clear hB4 hb5
  go_wp2_with fail
  refine (HR.out _).mono ?_
  rintro e w6 ⟨rfl, hb6⟩
  have hB6 := bt hB5 hb6
  clear hB5 hb6
  go_wp2_with fail
  go_ret
  exact ⟨by simp, hB6⟩

set_option maxHeartbeats 1000000 in
set_option maxRecDepth 100000 in
theorem sums_lifted (os : Os) (started : os.Started) (H : Type) (enc : TypeId × Value → H) :
    ReturnsInHanded {} Try.checked os 5 .any (Rows.shaSumsSpec.pre6 enc Try.prog Try.f5 Rows.shaSumsRow.domain false) (Rows.shaSumsSpec.post enc Try.prog Try.f5 false true false false) := by
  refine returnsInHanded_of_change (C := Try.checked) Try.own started (by kernel_rfl) Try.func5
    (ChangeSpec.witness6 (enc := enc) (C := Try.checked) false ⟨#[], #[.string ⟨#[]⟩], []⟩ 8 (by kernel_rfl) (by kernel_rfl) (by kernel_rfl) (by kernel_rfl)) ?_
  intro W base args ds gs before hval0 hW _ _
  have hval : ∀ (j : Nat) t v, Try.f5.params[j]? = some t → args[j]? = some v → Value.okWide Try.prog W .any base t v := hval0
  have hW' := hW
  obtain ⟨p, q, hA0, hV, rfl, _, _⟩ := hW
  have hA : DataW.TrodAll enc Try.prog W 0 (fun _ => true) true Try.f5.params.toList args.toList ds p := hA0
  rw [Try.params5] at hA hval
  obtain ⟨v0, d0, rfl, rfl, h0⟩ := trodAll_one hA
  obtain ⟨rfl, rfl⟩ := trodVars_none hV
  obtain ⟨s0, rfl, rfl, rfl, ws0⟩ := ChangeMaps.open_string Try.underlying9 (hval 0 9 v0 rfl rfl) h0
  clear hA0 hval0
  simp only [List.append_nil] at hW'
  obtain ⟨l0, rfl, hl0⟩ := str_list s0
  have ws0' := ws0
  unfold maxLen at ws0'
  refine (sums_any l0 W (by omega)).mono fun e W' ⟨he, hn⟩ => ?_
  subst he
  refine ⟨_, rfl, ?_⟩
  refine ⟨_, _, _, [], [], [], hW', ?_, trodAll_mk1 (ChangeMaps.shut_string Try.underlying9 ws0), rfl, hn.frame _, fun h => by cases h⟩
  exact trodAll_mk1 (shut_bool Try.underlying4 true)

/-- ShaSums, for every input. -/
theorem sums_holds : Rows.ShaSumsSaid :=
  OpenClaim.holds_of_wide 5 Try.f5 rfl rfl rfl rfl rfl rfl rfl ⟨rfl, rfl, rfl, rfl, rfl⟩ rfl rfl rfl rfl rfl (by kernel_rfl) Try.func5 (by kernel_rfl)
    (of_decide_eq_true (by kernel_rfl)) (by unfold Func.isWrapper; rw [if_neg (of_decide_eq_false (by kernel_rfl))]; exact ⟨rfl, rfl⟩)
    (fun os started H enc _ => sums_lifted os started H enc)
#print axioms sums_holds
end Go.Proofs.Ytdnndmdjnjhpaaa
