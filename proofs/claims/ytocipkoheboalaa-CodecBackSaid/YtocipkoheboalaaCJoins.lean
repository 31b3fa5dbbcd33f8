/- CodecJoins is true of every number, text and row of fields, and leaves its arguments as they were. -/
import Derived.Test.YtocipkoheboalaaCOpen
namespace Go.Proofs.Ytocipkoheboalaa
open Go.ChangeShapes Go.WideShapes Go.ChangeAt Go.RowKit Go.Joins Go.Deep

/-- The first field of a row whose text is too long. -/
def Stop (M : List Fld) (b : Nat) : Prop := ∃ hb : b < M.length, (∀ x ∈ M.take b, OkF x) ∧ M[b].1 = true ∧ 4096 < M[b].2.2.length
theorem okF_or (M : List Fld) : (∀ x ∈ M, OkF x) ∨ ∃ b, Stop M b := by
  induction M with
  | nil => exact .inl (fun x hx => by cases hx)
  | cons y M ih =>
    by_cases hy : OkF y
    · rcases ih with h | ⟨b, hb, ho, ht, hs⟩
      · refine .inl (fun x hx => ?_)
        rcases List.mem_cons.1 hx with rfl | hx
        · exact hy
        · exact h x hx
      · refine .inr ⟨b + 1, by simpa using hb, fun x hx => ?_, ht, hs⟩
        rw [List.take_succ_cons] at hx
        rcases List.mem_cons.1 hx with rfl | hx
        · exact hy
        · exact ho x hx
    · refine .inr ⟨0, by simp, by simp, ?_⟩
      unfold OkF at hy
      simpa [Classical.not_imp] using hy

set_option maxRecDepth 100000 in
set_option maxHeartbeats 4000000 in
theorem joins_short_ok (n len cap m : Nat) (s : List UInt8) (A : Option Addr) (M : List Fld) (w : World) (hn : (n : Int) ≤ 18446744073709551615) (hlc : (len : Int) ≤ 9223372036854775807) (hm : min (len : Int) 12 = (m : Int)) (hmc : m ≤ cap) (hM : M.length = m)
    (hs : s.length ≤ 4096) (hN : ∀ x ∈ M, NumF x) (h : FR w A M) (hO : ∀ x ∈ M, OkF x) :
    Calls Try.prog 3 #[.int .u64 (n : Int), .string ⟨s.toArray⟩, .slice A len cap] w fun e w' => e = .returned (.bool true) ∧ Below w.heap.size w w' := by
  have hz := size_mk s
  have hm12 : m ≤ 12 := by omega
  have hsl := cut_run A len cap m hmc
  have HN := Lib.hid hN
  have HR := Lib.hid h
  have HM := Lib.hid hM
  clear hN h hM
  have HO := Lib.hid hO
  clear hO
  go_enter Try.func3, Try.ntmps3
  go_wp2_with fail
  refine (text_ok s _ hs).mono ?_
  rintro e w1 ⟨rfl, hb1⟩
  go_wp2_with fail
  rw [← HM.out]
  refine (join_ok A cap M _ (HR.out.later hb1) (by rw [HM.out]; omega) HO.out HN.out).mono ?_
  rintro e w2 ⟨rfl, hb2⟩
  have hB2 := bt hb1 hb2
  clear hb1 hb2
  go_wp2_with fail
  refine (number_any n _ hn).mono ?_
  rintro e w3 ⟨rfl, hb3⟩
  go_wp2_with fail
  refine (rlow_any n 8 _ (by omega) hn).mono ?_
  rintro e w4 ⟨rfl, hb4⟩
  go_wp2_with fail
  refine (alive_any _).mono ?_
  rintro e w5 ⟨rfl, hb5⟩
  have hB5 := bt (bt (bt hB2 hb3) hb4) hb5
  clear hb3 hb4 hb5
  go_wp2_with fail
  refine (one_any (true, 0, s) (fun _ => hs) ⟨by simp, by simp only; omega⟩ _).mono ?_
  rintro e w6 ⟨rfl, hb6⟩
  have hB6 := bt hB5 hb6
  clear hb6
  go_wp2_with fail
  refine (long_no A cap M _ (HR.out.later hB6) (by rw [HM.out]; omega) HO.out).mono ?_
  rintro e w7 ⟨rfl, hb7⟩
  have hB7 := bt hB6 hb7
  clear hb7
  go_wp2_with fail
  refine (rjoin_any A cap M _ (HR.out.later hB7) (by rw [HM.out]; omega) HO.out HN.out).mono ?_
  rintro e w8 ⟨rfl, hb8⟩
  have hB8 := bt hB7 hb8
  clear hb8
  go_wp2_with fail
  go_ret
  exact ⟨by simp, hB8⟩

set_option maxRecDepth 100000 in
set_option maxHeartbeats 4000000 in
theorem joins_short_stop (n len cap m : Nat) (s : List UInt8) (A : Option Addr) (M : List Fld) (w : World) (hn : (n : Int) ≤ 18446744073709551615) (hlc : (len : Int) ≤ 9223372036854775807) (hm : min (len : Int) 12 = (m : Int)) (hmc : m ≤ cap) (hM : M.length = m)
    (hs : s.length ≤ 4096) (hN : ∀ x ∈ M, NumF x) (h : FR w A M) (b : Nat) (hO : Stop M b) :
    Calls Try.prog 3 #[.int .u64 (n : Int), .string ⟨s.toArray⟩, .slice A len cap] w fun e w' => e = .returned (.bool true) ∧ Below w.heap.size w w' := by
  have hz := size_mk s
  have hm12 : m ≤ 12 := by omega
  have hsl := cut_run A len cap m hmc
  have HN := Lib.hid hN
  have HR := Lib.hid h
  have HM := Lib.hid hM
  clear hN h hM
  have HO := Lib.hid hO
  clear hO
  go_enter Try.func3, Try.ntmps3
  go_wp2_with fail
  refine (text_ok s _ hs).mono ?_
  rintro e w1 ⟨rfl, hb1⟩
  go_wp2_with fail
  rw [← HM.out]
  refine (join_stop A cap M _ (HR.out.later hb1) (by rw [HM.out]; omega) b HO.out.1 HO.out.2.1 (HN.out _ (List.getElem_mem HO.out.1)) HO.out.2.2.1 HO.out.2.2.2).mono ?_
  rintro e w2 ⟨rfl, hb2⟩
  have hB2 := bt hb1 hb2
  clear hb1 hb2
  go_wp2_with fail
  refine (number_any n _ hn).mono ?_
  rintro e w3 ⟨rfl, hb3⟩
  go_wp2_with fail
  refine (rlow_any n 8 _ (by omega) hn).mono ?_
  rintro e w4 ⟨rfl, hb4⟩
  go_wp2_with fail
  refine (alive_any _).mono ?_
  rintro e w5 ⟨rfl, hb5⟩
  have hB5 := bt (bt (bt hB2 hb3) hb4) hb5
  clear hb3 hb4 hb5
  go_wp2_with fail
  refine (one_any (true, 0, s) (fun _ => hs) ⟨by simp, by simp only; omega⟩ _).mono ?_
  rintro e w6 ⟨rfl, hb6⟩
  have hB6 := bt hB5 hb6
  clear hb6
  go_wp2_with fail
  refine (long_yes A cap M _ (HR.out.later hB6) (by rw [HM.out]; omega) b HO.out.1 HO.out.2.1 (HN.out _ (List.getElem_mem HO.out.1)) HO.out.2.2.1 HO.out.2.2.2).mono ?_
  rintro e w7 ⟨rfl, hb7⟩
  have hB7 := bt hB6 hb7
  clear hb7
  go_wp2_with fail
  have hB8 := hB7
  go_ret
  exact ⟨by simp, hB8⟩

set_option maxRecDepth 100000 in
set_option maxHeartbeats 4000000 in
theorem joins_long_ok (n len cap m : Nat) (s : List UInt8) (A : Option Addr) (M : List Fld) (w : World) (hn : (n : Int) ≤ 18446744073709551615) (hlc : (len : Int) ≤ 9223372036854775807) (hm : min (len : Int) 12 = (m : Int)) (hmc : m ≤ cap) (hM : M.length = m)
    (hs : 4096 < s.length) (hs2 : (s.length : Int) ≤ 9223372036854775807) (hN : ∀ x ∈ M, NumF x) (h : FR w A M) (hO : ∀ x ∈ M, OkF x) :
    Calls Try.prog 3 #[.int .u64 (n : Int), .string ⟨s.toArray⟩, .slice A len cap] w fun e w' => e = .returned (.bool true) ∧ Below w.heap.size w w' := by
  have hz := size_mk s
  have hm12 : m ≤ 12 := by omega
  have hsl := cut_run A len cap m hmc
  have HN := Lib.hid hN
  have HR := Lib.hid h
  have HM := Lib.hid hM
  clear hN h hM
  have HO := Lib.hid hO
  clear hO
  go_enter Try.func3, Try.ntmps3
  go_wp2_with fail
  refine (text_long s _ hs (by omega)).mono ?_
  rintro e w1 ⟨rfl, hb1⟩
  go_wp2_with fail
  rw [← HM.out]
  refine (join_ok A cap M _ (HR.out.later hb1) (by rw [HM.out]; omega) HO.out HN.out).mono ?_
  rintro e w2 ⟨rfl, hb2⟩
  have hB2 := bt hb1 hb2
  clear hb1 hb2
  go_wp2_with fail
  refine (number_any n _ hn).mono ?_
  rintro e w3 ⟨rfl, hb3⟩
  go_wp2_with fail
  refine (rlow_any n 8 _ (by omega) hn).mono ?_
  rintro e w4 ⟨rfl, hb4⟩
  go_wp2_with fail
  refine (alive_any _).mono ?_
  rintro e w5 ⟨rfl, hb5⟩
  have hB5 := bt (bt (bt hB2 hb3) hb4) hb5
  clear hb3 hb4 hb5
  go_wp2_with fail
  have hB6 := hB5
  refine (long_no A cap M _ (HR.out.later hB6) (by rw [HM.out]; omega) HO.out).mono ?_
  rintro e w7 ⟨rfl, hb7⟩
  have hB7 := bt hB6 hb7
  clear hb7
  go_wp2_with fail
  refine (rjoin_any A cap M _ (HR.out.later hB7) (by rw [HM.out]; omega) HO.out HN.out).mono ?_
  rintro e w8 ⟨rfl, hb8⟩
  have hB8 := bt hB7 hb8
  clear hb8
  go_wp2_with fail
  go_ret
  exact ⟨by simp, hB8⟩

set_option maxRecDepth 100000 in
set_option maxHeartbeats 4000000 in
theorem joins_long_stop (n len cap m : Nat) (s : List UInt8) (A : Option Addr) (M : List Fld) (w : World) (hn : (n : Int) ≤ 18446744073709551615) (hlc : (len : Int) ≤ 9223372036854775807) (hm : min (len : Int) 12 = (m : Int)) (hmc : m ≤ cap) (hM : M.length = m)
    (hs : 4096 < s.length) (hs2 : (s.length : Int) ≤ 9223372036854775807) (hN : ∀ x ∈ M, NumF x) (h : FR w A M) (b : Nat) (hO : Stop M b) :
    Calls Try.prog 3 #[.int .u64 (n : Int), .string ⟨s.toArray⟩, .slice A len cap] w fun e w' => e = .returned (.bool true) ∧ Below w.heap.size w w' := by
  have hz := size_mk s
  have hm12 : m ≤ 12 := by omega
  have hsl := cut_run A len cap m hmc
  have HN := Lib.hid hN
  have HR := Lib.hid h
  have HM := Lib.hid hM
  clear hN h hM
  have HO := Lib.hid hO
  clear hO
  go_enter Try.func3, Try.ntmps3
  go_wp2_with fail
  refine (text_long s _ hs (by omega)).mono ?_
  rintro e w1 ⟨rfl, hb1⟩
  go_wp2_with fail
  rw [← HM.out]
  refine (join_stop A cap M _ (HR.out.later hb1) (by rw [HM.out]; omega) b HO.out.1 HO.out.2.1 (HN.out _ (List.getElem_mem HO.out.1)) HO.out.2.2.1 HO.out.2.2.2).mono ?_
  rintro e w2 ⟨rfl, hb2⟩
  have hB2 := bt hb1 hb2
  clear hb1 hb2
  go_wp2_with fail
  refine (number_any n _ hn).mono ?_
  rintro e w3 ⟨rfl, hb3⟩
  go_wp2_with fail
  refine (rlow_any n 8 _ (by omega) hn).mono ?_
  rintro e w4 ⟨rfl, hb4⟩
  go_wp2_with fail
  refine (alive_any _).mono ?_
  rintro e w5 ⟨rfl, hb5⟩
  have hB5 := bt (bt (bt hB2 hb3) hb4) hb5
  clear hb3 hb4 hb5
  go_wp2_with fail
  have hB6 := hB5
  refine (long_yes A cap M _ (HR.out.later hB6) (by rw [HM.out]; omega) b HO.out.1 HO.out.2.1 (HN.out _ (List.getElem_mem HO.out.1)) HO.out.2.2.1 HO.out.2.2.2).mono ?_
  rintro e w7 ⟨rfl, hb7⟩
  have hB7 := bt hB6 hb7
  clear hb7
  go_wp2_with fail
  have hB8 := hB7
  go_ret
  exact ⟨by simp, hB8⟩

theorem joins_any (n len cap m : Nat) (s : List UInt8) (A : Option Addr) (M : List Fld) (w : World) (hn : (n : Int) ≤ 18446744073709551615) (hlc : (len : Int) ≤ 9223372036854775807) (hm : min (len : Int) 12 = (m : Int)) (hmc : m ≤ cap) (hM : M.length = m)
    (hs2 : (s.length : Int) ≤ 9223372036854775807) (hN : ∀ x ∈ M, NumF x) (h : FR w A M) :
    Calls Try.prog 3 #[.int .u64 (n : Int), .string ⟨s.toArray⟩, .slice A len cap] w fun e w' => e = .returned (.bool true) ∧ Below w.heap.size w w' := by
  by_cases hs : s.length ≤ 4096
  · rcases okF_or M with hO | ⟨b, hO⟩
    · exact joins_short_ok n len cap m s A M w hn hlc hm hmc hM hs hN h hO
    · exact joins_short_stop n len cap m s A M w hn hlc hm hmc hM hs hN h b hO
  · rcases okF_or M with hO | ⟨b, hO⟩
    · exact joins_long_ok n len cap m s A M w hn hlc hm hmc hM (by omega) hs2 hN h hO
    · exact joins_long_stop n len cap m s A M w hn hlc hm hmc hM (by omega) hs2 hN h b hO

set_option maxHeartbeats 1000000 in
set_option maxRecDepth 100000 in
theorem joins_lifted (os : Os) (started : os.Started) (H : Type) (enc : TypeId × Value → H) :
    ReturnsInHanded {} Try.checked os 3 .any (Rows.codecJoinsSpec.pre6 enc Try.prog Try.f3 Rows.codecJoinsRow.domain false) (Rows.codecJoinsSpec.post enc Try.prog Try.f3 false true false false) := by
  refine returnsInHanded_of_change (C := Try.checked) Try.own started (by kernel_rfl) Try.func3
    (ChangeSpec.witness6 (enc := enc) (C := Try.checked) false ⟨#[], #[.int .u64 0, .string ⟨#[]⟩, .slice none 0 0], []⟩ 8 (by kernel_rfl) (by kernel_rfl) (by kernel_rfl) (by kernel_rfl)) ?_
  intro W base args ds gs before hval0 hW _ _
  have hval : ∀ (j : Nat) t v, Try.f3.params[j]? = some t → args[j]? = some v → Value.okWide Try.prog W .any base t v := hval0
  have hW' := hW
  obtain ⟨p, q, hA0, hV, rfl, _, _⟩ := hW
  have hA : DataW.TrodAll enc Try.prog W 0 (fun _ => true) true Try.f3.params.toList args.toList ds p := hA0
  rw [Try.params3] at hA hval
  obtain ⟨v0, v1, v2, d0, d1, d2, p0, p1, p2, rfl, rfl, rfl, h0, h1, h2⟩ := trodAll_three hA
  obtain ⟨rfl, rfl⟩ := trodVars_none hV
  have h2k := h2
  obtain ⟨n, rfl, rfl, rfl, wn⟩ := open_int Try.underlying22 (hval 0 22 v0 rfl rfl) h0
  obtain ⟨s, rfl, rfl, rfl, ws⟩ := ChangeMaps.open_string Try.underlying9 (hval 1 9 v1 rfl rfl) h1
  obtain ⟨A, cap, L, rfl, hlc, hcm, hN, hR⟩ := open_frow (hval 2 23 v2 rfl rfl) h2
  clear hA0 hval0
  simp only [List.append_nil, List.nil_append] at hW'
  have hlt : ∀ x ∈ p2, x.block < W.heap.size := fun x hx => by simpa using hW'.lt x hx
  obtain ⟨n0, n1⟩ := u64_bounds wn
  obtain ⟨n, rfl⟩ := Int.eq_ofNat_of_zero_le n0
  obtain ⟨l, rfl, hl⟩ := str_list s
  have ws' := ws
  unfold maxLen at ws'
  refine (joins_any n L.length cap (min L.length 12) l A (L.take (min L.length 12)) W n1 (by omega) (by omega) (by omega) (by rw [List.length_take]; omega) (by omega) (fun x hx => hN x (List.mem_of_mem_take hx)) (hR.take _)).mono fun e W' ⟨he, hn⟩ => ?_
  subst he
  refine ⟨_, rfl, ?_⟩
  refine ⟨_, _, _, [], [] ++ ([] ++ p2), [], hW', ?_, trodAll_mk3 (shut_int Try.underlying22 wn) (ChangeMaps.shut_string Try.underlying9 ws) (Below.trod Try.laidOut (by kernel_rfl) (of_decide_eq_true (by kernel_rfl)) h2k hn hlt), rfl, hn.frame _, fun h => by cases h⟩
  exact trodAll_mk1 (shut_bool Try.underlying4 true)

/-- CodecJoins, for every number, text and row of fields. -/
theorem joins_holds : Rows.CodecJoinsSaid :=
  OpenClaim.holds_of_wide 3 Try.f3 rfl rfl rfl rfl rfl rfl rfl ⟨rfl, rfl, rfl, rfl, rfl⟩ rfl rfl rfl rfl rfl (by kernel_rfl) Try.func3 (by kernel_rfl)
    (of_decide_eq_true (by kernel_rfl)) (by unfold Func.isWrapper; rw [if_neg (of_decide_eq_false (by kernel_rfl))]; exact ⟨rfl, rfl⟩)
    (fun os started H enc _ => joins_lifted os started H enc)
#print axioms joins_holds
end Go.Proofs.Ytocipkoheboalaa
