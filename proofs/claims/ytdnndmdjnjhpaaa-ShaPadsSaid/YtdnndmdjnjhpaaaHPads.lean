/- ShaPads is true of every two texts, and leaves its arguments as they were. -/
import Derived.Test.YtdnndmdjnjhpaaaHCut
namespace Go.Proofs.Ytdnndmdjnjhpaaa
open Go.ChangeShapes Go.WideShapes Go.ChangeAt Go.RowKit Go.Joins Go.Deep

theorem ofNat_inj (a b : Nat) (ha : a < 256) (hb : b < 256) (h : UInt8.ofNat a = UInt8.ofNat b) : a = b := by
  have h1 := congrArg UInt8.toNat h
  simp at h1
  omega
theorem highB_inj (n m : Nat) (hn : n < 65536) (hm : m < 65536) (h : highB n 8 = highB m 8) : n = m := by
  have h1 : lowB n 8 = lowB m 8 := by simpa [highB] using h
  simp only [lowB, List.cons.injEq] at h1
  obtain ⟨a, b, _⟩ := h1
  have a' := ofNat_inj _ _ (by omega) (by omega) a
  have b' := ofNat_inj _ _ (by omega) (by omega) b
  omega
theorem padL_inj (s t : List UInt8) (hs : s.length ≤ 400) (ht : t.length ≤ 400) (h : padL s = padL t) : s = t := by
  unfold padL at h
  have h2 := List.append_inj' h (by rw [highB_len, highB_len])
  have h3 := highB_inj _ _ (by omega) (by omega) h2.2
  have h4 : s.length = t.length := by omega
  have h5 := h2.1
  rw [List.append_assoc, List.append_assoc] at h5
  exact (List.append_inj h5 h4).1
theorem pad_prefix (s : List UInt8) : (s ++ [128]).isPrefixOf (padL s) = true := by
  rw [List.isPrefixOf_iff_prefix, padL, List.append_assoc]
  exact List.prefix_append _ _

set_option maxRecDepth 100000 in
set_option maxHeartbeats 2000000 in
theorem pads_any (s t : List UInt8) (w : World) (hs : (s.length : Int) ≤ 9223372036854775807) (ht : (t.length : Int) ≤ 9223372036854775807) :
    Calls Try.prog 6 #[.string ⟨s.toArray⟩, .string ⟨t.toArray⟩] w fun e w' => e = .returned (.bool true) ∧ Below w.heap.size w w' := by
  have HA := Lib.hid (cut_any s w hs)
  have HB := Lib.hid (cut_any t w ht)
  have hl1 : (s.take 400).length ≤ 400 := by rw [List.length_take]; omega
  have hl2 : (t.take 400).length ≤ 400 := by rw [List.length_take]; omega
  generalize s.take 400 = S at HA hl1
  generalize t.take 400 = T at HB hl2
  have HP := Lib.hid (fun W => pad_any S W (by omega))
  have HQ := Lib.hid (fun W => pad_any T W (by omega))
  have hlen := padL_len S
  have hmod := padL_mod S
  have hz := padZ_lt S.length
  have hzS := size_of S
  have hzP := size_of (padL S)
  have HX := Lib.hid (pad_prefix S)
  have HI : Hid ((padL S == padL T) = (S == T)) := Lib.hid (by
    rw [Bool.eq_iff_iff]
    simp only [beq_iff_eq]
    exact ⟨padL_inj S T hl1 hl2, fun h => by rw [h]⟩)
  have hadd : ∀ W : World, (Op.stringOp .add ⟨S.toArray⟩ ⟨#[128]⟩).run Try.prog W = .ok (.string ⟨(S ++ [128]).toArray⟩) W := fun W => run_string_add_lists (P := Try.prog) W S [128] (by omega) (by simp)
  generalize padL S = P at HP hlen hmod hzP HX HI
  generalize padL T = Q at HQ HI
  generalize padZ S.length = Z at hlen hz
  obtain ⟨N, hN⟩ : ∃ N, S.length = N := ⟨_, rfl⟩
  obtain ⟨L, hL⟩ : ∃ L, P.length = L := ⟨_, rfl⟩
  rw [hN] at hlen hzS hl1
  rw [hL] at hlen hmod hzP
  have i1 : (L : Int) % 64 = 0 := by omega
  have i2 : (N : Int) + 9 ≤ (L : Int) := by omega
  have i3 : (L : Int) < (N : Int) + 73 := by omega
  have HPX := Lib.hid (prefix_any P (S ++ [128]))
  clear hN hL hlen hmod hz hs ht hl2
  go_enter Try.func6, Try.ntmps6
  go_wp2_with fail
  refine HA.out.mono ?_
  rintro e w1 ⟨rfl, rfl⟩
  go_wp2_with fail
  refine HB.out.mono ?_
  rintro e w1 ⟨rfl, rfl⟩
  go_wp2_with fail
  refine (HP.out _).mono ?_
  rintro e w1 ⟨rfl, hb1⟩
  go_wp2_with fail
  refine (HQ.out _).mono ?_
  rintro e w2 ⟨rfl, hb2⟩
  have hB2 := bt hb1 hb2
  clear hb1 hb2
  go_wp2_with fail
  refine (alive_any _).mono ?_
  rintro e w3 ⟨rfl, hb3⟩
  have hB3 := bt hB2 hb3
  clear hB2 hb3
  go_wp2_with fail
  refine (HPX.out _).mono ?_
  rw [HX.out]
  rintro e w4 ⟨rfl, rfl⟩
  go_wp2_with fail
  go_ret
  exact ⟨by simp [HI.out], hB3⟩

set_option maxHeartbeats 1000000 in
set_option maxRecDepth 100000 in
theorem pads_lifted (os : Os) (started : os.Started) (H : Type) (enc : TypeId × Value → H) :
    ReturnsInHanded {} Try.checked os 6 .any (Rows.shaPadsSpec.pre6 enc Try.prog Try.f6 Rows.shaPadsRow.domain false) (Rows.shaPadsSpec.post enc Try.prog Try.f6 false true false false) := by
  refine returnsInHanded_of_change (C := Try.checked) Try.own started (by kernel_rfl) Try.func6
    (ChangeSpec.witness6 (enc := enc) (C := Try.checked) false ⟨#[], #[.string ⟨#[]⟩, .string ⟨#[]⟩], []⟩ 8 (by kernel_rfl) (by kernel_rfl) (by kernel_rfl) (by kernel_rfl)) ?_
  intro W base args ds gs before hval0 hW _ _
  have hval : ∀ (j : Nat) t v, Try.f6.params[j]? = some t → args[j]? = some v → Value.okWide Try.prog W .any base t v := hval0
  have hW' := hW
  obtain ⟨p, q, hA0, hV, rfl, _, _⟩ := hW
  have hA : DataW.TrodAll enc Try.prog W 0 (fun _ => true) true Try.f6.params.toList args.toList ds p := hA0
  rw [Try.params6] at hA hval
  obtain ⟨v0, v1, d0, d1, p0, p1, rfl, rfl, rfl, h0, h1⟩ := trodAll_two hA
  obtain ⟨rfl, rfl⟩ := trodVars_none hV
  obtain ⟨s0, rfl, rfl, rfl, ws0⟩ := ChangeMaps.open_string Try.underlying9 (hval 0 9 v0 rfl rfl) h0
  obtain ⟨s1, rfl, rfl, rfl, ws1⟩ := ChangeMaps.open_string Try.underlying9 (hval 1 9 v1 rfl rfl) h1
  clear hA0 hval0
  simp only [List.append_nil] at hW'
  obtain ⟨l0, rfl, hl0⟩ := str_list s0
  have ws0' := ws0
  unfold maxLen at ws0'
  obtain ⟨l1, rfl, hl1⟩ := str_list s1
  have ws1' := ws1
  unfold maxLen at ws1'
  refine (pads_any l0 l1 W (by omega) (by omega)).mono fun e W' ⟨he, hn⟩ => ?_
  subst he
  refine ⟨_, rfl, ?_⟩
  refine ⟨_, _, _, [], [], [], hW', ?_, trodAll_mk2 (ChangeMaps.shut_string Try.underlying9 ws0) (ChangeMaps.shut_string Try.underlying9 ws1), rfl, hn.frame _, fun h => by cases h⟩
  exact trodAll_mk1 (shut_bool Try.underlying4 true)

/-- ShaPads, for every input. -/
theorem pads_holds : Rows.ShaPadsSaid :=
  OpenClaim.holds_of_wide 6 Try.f6 rfl rfl rfl rfl rfl rfl rfl ⟨rfl, rfl, rfl, rfl, rfl⟩ rfl rfl rfl rfl rfl (by kernel_rfl) Try.func6 (by kernel_rfl)
    (of_decide_eq_true (by kernel_rfl)) (by unfold Func.isWrapper; rw [if_neg (of_decide_eq_false (by kernel_rfl))]; exact ⟨rfl, rfl⟩)
    (fun os started H enc _ => pads_lifted os started H enc)
#print axioms pads_holds
end Go.Proofs.Ytdnndmdjnjhpaaa
