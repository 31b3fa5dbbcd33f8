/- CodecBack is true of every row of fields and every two texts, and leaves its arguments as they were. -/
import Derived.Test.YtocipkoheboalaaCBMath
import Derived.Test.YtocipkoheboalaaCJoins
namespace Go.Proofs.Ytocipkoheboalaa
open Go.ChangeShapes Go.WideShapes Go.ChangeAt Go.RowKit Go.Joins Go.Deep

theorem same_norm (A B : Option Addr) (c d : Nat) (M : List Fld) (w : World) (hA : FR w A (M.map norm)) (hB : FR w B M) (h64 : M.length ≤ 64) :
    Calls Try.prog 17 #[.slice A M.length c, .slice B M.length d] w fun e w' => e = .returned (.bool true) ∧ Below w.heap.size w w' := by
  have h := same_any A B c d (M.map norm) M w hA hB (by simp) (fun j hj => by rw [List.getElem_map]; exact norm_same _) (by simpa using h64)
  rwa [List.length_map] at h
/-- What Split tells of joined fields. -/
theorem split_of_join (M : List Fld) (w : World) (ho : ∀ x ∈ M, OkF x) (hn : ∀ x ∈ M, NumF x) (hl : M.length ≤ 60) :
    Calls Try.prog 15 #[.string ⟨(encs M).toArray⟩, .string ⟨(kindsOf M).toArray⟩] w fun e w' => ∃ A cap, e = .returned (.tuple #[.slice A M.length cap, .int .i64 0, .int .i64 0]) ∧ FR w' A (M.map norm) ∧ M.length ≤ cap ∧ Below w.heap.size w w' := by
  have h := split_join M [] [] ho hn
  simp only [List.nil_append, List.length_nil] at h
  have hlen := encs_len M ho
  refine (split_ok (encs M) (kindsOf M) w _ h (kinds_kind M) (by rw [kinds_len]; exact hl) (by omega)).mono ?_
  rintro e w' ⟨A, cap, rfl, hF, hc, hb⟩
  simp only [List.length_map] at hc
  exact ⟨A, cap, by simp, hF, hc, hb⟩

set_option maxRecDepth 100000 in
set_option maxHeartbeats 4000000 in
theorem back_ok_ok (len cap m q : Nat) (s ks K : List UInt8) (A : Option Addr) (M : List Fld) (w : World) (hlc : (len : Int) ≤ 9223372036854775807) (hm : min (len : Int) 12 = (m : Int)) (hmc : m ≤ cap) (hM : M.length = m)
    (hq : min (ks.length : Int) 30 = (q : Int)) (hK : ks.take q = K) (hkl : (ks.length : Int) ≤ 9223372036854775807) (hN : ∀ x ∈ M, NumF x) (h : FR w A M) (hO : ∀ x ∈ M, OkF x)
    (N : List Fld) (hS : (∀ w, Calls Try.prog 15 #[.string ⟨s.toArray⟩, .string ⟨K.toArray⟩] w (SplitPost w (N, 0, 0))) ∧ encs N = s ∧ kindsOf N = K ∧ (∀ x ∈ N, OkF x) ∧ (∀ x ∈ N, NumF x) ∧ N.length ≤ 30) :
    Calls Try.prog 5 #[.slice A len cap, .string ⟨s.toArray⟩, .string ⟨ks.toArray⟩] w fun e w' => e = .returned (.bool true) ∧ Below w.heap.size w w' := by
  have hzs := size_mk s
  have hzk := size_mk ks
  have hex := extract_take ks q
  rw [hK] at hex
  have hqk : (q : Int) ≤ (ks.length : Int) := by omega
  have hm12 : m ≤ 12 := by omega
  have hmc2 : (m : Int) ≤ (cap : Int) := by omega
  have hcr := cut_run A len cap m hmc
  have HN := Lib.hid hN
  have HR := Lib.hid h
  have HM := Lib.hid hM
  have HO := Lib.hid hO
  have HK := Lib.hid hK
  have HS := Lib.hid hS
  clear hN h hM hO hK hS
  go_enter Try.func5, Try.ntmps5
  go_wp2_with fail
  go_quiet (fail)
  have HR1 : Hid (FR (w.drewN nq) A M) := Lib.hid (HR.out.later (bdn (Below.refl _ _) _))
  obtain ⟨w0, hw0⟩ : ∃ w0, w0 = w.drewN nq := ⟨_, rfl⟩
  have hb0 : Below w.heap.size w w0 := by rw [hw0]; exact bdn (Below.refl _ _) _
  rw [← hw0] at HR1 ⊢
  clear hw0 HR
  go_wp2_with fail
  rw [← HM.out]
  refine (join_ok A cap M _ HR1.out (by rw [HM.out]; omega) HO.out HN.out).mono ?_
  rintro e w1 ⟨rfl, hb1⟩
  have hR2 := HR1.out.later hb1
  have hB1 := bt hb0 hb1
  have HR2 := Lib.hid hR2
  clear hb1 hR2
  go_wp2_with fail
  refine (kinds_any A cap M _ HR2.out (by rw [HM.out]; omega)).mono ?_
  rintro e w2 ⟨rfl, hb2⟩
  have hB2 := bt hB1 hb2
  have HR3 := Lib.hid (HR2.out.later hb2)
  clear hb2
  go_wp2_with fail
  refine (split_of_join M _ HO.out HN.out (by rw [HM.out]; omega)).mono ?_
  rintro e w3 ⟨A3, c3, rfl, hF3, hc3, hb3⟩
  have hB3 := bt hB2 hb3
  have HR4 := Lib.hid (HR3.out.later hb3)
  have HF3 := Lib.hid hF3
  clear hF3 hb3
  go_wp2_with fail
  refine (same_norm A3 A c3 cap M _ HF3.out HR4.out (by rw [HM.out]; omega)).mono ?_
  rintro e w4 ⟨rfl, hb4⟩
  have hB4 := bt hB3 hb4
  clear hb4
  go_wp2_with fail
  refine (HS.out.1 _).mono ?_
  rintro e w5 ⟨A5, c5, rfl, hF5, hc5, hb5⟩
  have hB5 := bt hB4 hb5
  have HF5 := Lib.hid hF5
  have HN5 := Lib.hid HS.out.2.1
  simp only at hc5
  clear hF5 hb5
  go_wp2_with fail
  refine (join_ok A5 c5 N _ HF5.out (by have := HS.out.2.2.2.2.2; omega) HS.out.2.2.2.1 HS.out.2.2.2.2.1).mono ?_
  rintro e w6 ⟨rfl, hb6⟩
  rw [HN5.out]
  have hB6 := bt hB5 hb6
  have HF6 := Lib.hid (HF5.out.later hb6)
  clear hb6
  go_wp2_with fail
  refine (alive_any _).mono ?_
  rintro e w7 ⟨rfl, hb7⟩
  have hB7 := bt hB6 hb7
  have HF7 := Lib.hid (HF6.out.later hb7)
  clear hb7
  go_wp2_with fail
  refine (kinds_any A5 c5 N _ HF7.out (by have := HS.out.2.2.2.2.2; omega)).mono ?_
  rintro e w8 ⟨rfl, hb8⟩
  rw [HS.out.2.2.1]
  go_wp2
  go_ret
  exact ⟨by simp, bt hB7 hb8⟩

set_option maxRecDepth 100000 in
set_option maxHeartbeats 4000000 in
theorem back_ok_err (len cap m q : Nat) (s ks K : List UInt8) (A : Option Addr) (M : List Fld) (w : World) (hlc : (len : Int) ≤ 9223372036854775807) (hm : min (len : Int) 12 = (m : Int)) (hmc : m ≤ cap) (hM : M.length = m)
    (hq : min (ks.length : Int) 30 = (q : Int)) (hK : ks.take q = K) (hkl : (ks.length : Int) ≤ 9223372036854775807) (hN : ∀ x ∈ M, NumF x) (h : FR w A M) (hO : ∀ x ∈ M, OkF x)
    (n : Nat) (x : Int) (hS : (∀ w, Calls Try.prog 15 #[.string ⟨s.toArray⟩, .string ⟨K.toArray⟩] w (SplitPost w ([], n, x))) ∧ ¬ x = 0 ∧ n ≤ s.length) :
    Calls Try.prog 5 #[.slice A len cap, .string ⟨s.toArray⟩, .string ⟨ks.toArray⟩] w fun e w' => e = .returned (.bool true) ∧ Below w.heap.size w w' := by
  have hzs := size_mk s
  have hzk := size_mk ks
  have hex := extract_take ks q
  rw [hK] at hex
  have hqk : (q : Int) ≤ (ks.length : Int) := by omega
  have hm12 : m ≤ 12 := by omega
  have hmc2 : (m : Int) ≤ (cap : Int) := by omega
  have hcr := cut_run A len cap m hmc
  have HN := Lib.hid hN
  have HR := Lib.hid h
  have HM := Lib.hid hM
  have HO := Lib.hid hO
  have HK := Lib.hid hK
  have HS := Lib.hid hS
  clear hN h hM hO hK hS
  go_enter Try.func5, Try.ntmps5
  go_wp2_with fail
  go_quiet (fail)
  have HR1 : Hid (FR (w.drewN nq) A M) := Lib.hid (HR.out.later (bdn (Below.refl _ _) _))
  obtain ⟨w0, hw0⟩ : ∃ w0, w0 = w.drewN nq := ⟨_, rfl⟩
  have hb0 : Below w.heap.size w w0 := by rw [hw0]; exact bdn (Below.refl _ _) _
  rw [← hw0] at HR1 ⊢
  clear hw0 HR
  go_wp2_with fail
  rw [← HM.out]
  refine (join_ok A cap M _ HR1.out (by rw [HM.out]; omega) HO.out HN.out).mono ?_
  rintro e w1 ⟨rfl, hb1⟩
  have hR2 := HR1.out.later hb1
  have hB1 := bt hb0 hb1
  have HR2 := Lib.hid hR2
  clear hb1 hR2
  go_wp2_with fail
  refine (kinds_any A cap M _ HR2.out (by rw [HM.out]; omega)).mono ?_
  rintro e w2 ⟨rfl, hb2⟩
  have hB2 := bt hB1 hb2
  have HR3 := Lib.hid (HR2.out.later hb2)
  clear hb2
  go_wp2_with fail
  refine (split_of_join M _ HO.out HN.out (by rw [HM.out]; omega)).mono ?_
  rintro e w3 ⟨A3, c3, rfl, hF3, hc3, hb3⟩
  have hB3 := bt hB2 hb3
  have HR4 := Lib.hid (HR3.out.later hb3)
  have HF3 := Lib.hid hF3
  clear hF3 hb3
  go_wp2_with fail
  refine (same_norm A3 A c3 cap M _ HF3.out HR4.out (by rw [HM.out]; omega)).mono ?_
  rintro e w4 ⟨rfl, hb4⟩
  have hB4 := bt hB3 hb4
  clear hb4
  go_wp2_with fail
  have x1 := HS.out.2.1
  have x2 : (x != 0) = true := by simpa using x1
  have x3 : (n : Int) ≤ (s.length : Int) := by have := HS.out.2.2; omega
  refine (HS.out.1 _).mono ?_
  rintro e w5 ⟨A5, c5, rfl, hF5, hc5, hb5⟩
  have hB5 := bt hB4 hb5
  clear hF5 hb5
  go_wp2_with fail
  refine (alive_any _).mono ?_
  rintro e w7 ⟨rfl, hb7⟩
  go_wp2
  go_ret
  exact ⟨by simp, bt hB5 hb7⟩

set_option maxRecDepth 100000 in
set_option maxHeartbeats 4000000 in
theorem back_stop_ok (len cap m q : Nat) (s ks K : List UInt8) (A : Option Addr) (M : List Fld) (w : World) (hlc : (len : Int) ≤ 9223372036854775807) (hm : min (len : Int) 12 = (m : Int)) (hmc : m ≤ cap) (hM : M.length = m)
    (hq : min (ks.length : Int) 30 = (q : Int)) (hK : ks.take q = K) (hkl : (ks.length : Int) ≤ 9223372036854775807) (hN : ∀ x ∈ M, NumF x) (h : FR w A M) (b : Nat) (hO : Stop M b)
    (N : List Fld) (hS : (∀ w, Calls Try.prog 15 #[.string ⟨s.toArray⟩, .string ⟨K.toArray⟩] w (SplitPost w (N, 0, 0))) ∧ encs N = s ∧ kindsOf N = K ∧ (∀ x ∈ N, OkF x) ∧ (∀ x ∈ N, NumF x) ∧ N.length ≤ 30) :
    Calls Try.prog 5 #[.slice A len cap, .string ⟨s.toArray⟩, .string ⟨ks.toArray⟩] w fun e w' => e = .returned (.bool true) ∧ Below w.heap.size w w' := by
  have hzs := size_mk s
  have hzk := size_mk ks
  have hex := extract_take ks q
  rw [hK] at hex
  have hqk : (q : Int) ≤ (ks.length : Int) := by omega
  have hm12 : m ≤ 12 := by omega
  have hmc2 : (m : Int) ≤ (cap : Int) := by omega
  have hcr := cut_run A len cap m hmc
  have HN := Lib.hid hN
  have HR := Lib.hid h
  have HM := Lib.hid hM
  have HO := Lib.hid hO
  have HK := Lib.hid hK
  have HS := Lib.hid hS
  clear hN h hM hO hK hS
  go_enter Try.func5, Try.ntmps5
  go_wp2_with fail
  go_quiet (fail)
  have HR1 : Hid (FR (w.drewN nq) A M) := Lib.hid (HR.out.later (bdn (Below.refl _ _) _))
  obtain ⟨w0, hw0⟩ : ∃ w0, w0 = w.drewN nq := ⟨_, rfl⟩
  have hb0 : Below w.heap.size w w0 := by rw [hw0]; exact bdn (Below.refl _ _) _
  rw [← hw0] at HR1 ⊢
  clear hw0 HR
  go_wp2_with fail
  rw [← HM.out]
  refine (join_stop A cap M _ HR1.out (by rw [HM.out]; omega) b HO.out.1 HO.out.2.1 (HN.out _ (List.getElem_mem HO.out.1)) HO.out.2.2.1 HO.out.2.2.2).mono ?_
  rintro e w4 ⟨rfl, hb4⟩
  have hB4 := bt hb0 hb4
  clear hb4
  go_wp2_with fail
  refine (HS.out.1 _).mono ?_
  rintro e w5 ⟨A5, c5, rfl, hF5, hc5, hb5⟩
  have hB5 := bt hB4 hb5
  have HF5 := Lib.hid hF5
  have HN5 := Lib.hid HS.out.2.1
  simp only at hc5
  clear hF5 hb5
  go_wp2_with fail
  refine (join_ok A5 c5 N _ HF5.out (by have := HS.out.2.2.2.2.2; omega) HS.out.2.2.2.1 HS.out.2.2.2.2.1).mono ?_
  rintro e w6 ⟨rfl, hb6⟩
  rw [HN5.out]
  have hB6 := bt hB5 hb6
  have HF6 := Lib.hid (HF5.out.later hb6)
  clear hb6
  go_wp2_with fail
  refine (alive_any _).mono ?_
  rintro e w7 ⟨rfl, hb7⟩
  have hB7 := bt hB6 hb7
  have HF7 := Lib.hid (HF6.out.later hb7)
  clear hb7
  go_wp2_with fail
  refine (kinds_any A5 c5 N _ HF7.out (by have := HS.out.2.2.2.2.2; omega)).mono ?_
  rintro e w8 ⟨rfl, hb8⟩
  rw [HS.out.2.2.1]
  go_wp2
  go_ret
  exact ⟨by simp, bt hB7 hb8⟩

set_option maxRecDepth 100000 in
set_option maxHeartbeats 4000000 in
theorem back_stop_err (len cap m q : Nat) (s ks K : List UInt8) (A : Option Addr) (M : List Fld) (w : World) (hlc : (len : Int) ≤ 9223372036854775807) (hm : min (len : Int) 12 = (m : Int)) (hmc : m ≤ cap) (hM : M.length = m)
    (hq : min (ks.length : Int) 30 = (q : Int)) (hK : ks.take q = K) (hkl : (ks.length : Int) ≤ 9223372036854775807) (hN : ∀ x ∈ M, NumF x) (h : FR w A M) (b : Nat) (hO : Stop M b)
    (n : Nat) (x : Int) (hS : (∀ w, Calls Try.prog 15 #[.string ⟨s.toArray⟩, .string ⟨K.toArray⟩] w (SplitPost w ([], n, x))) ∧ ¬ x = 0 ∧ n ≤ s.length) :
    Calls Try.prog 5 #[.slice A len cap, .string ⟨s.toArray⟩, .string ⟨ks.toArray⟩] w fun e w' => e = .returned (.bool true) ∧ Below w.heap.size w w' := by
  have hzs := size_mk s
  have hzk := size_mk ks
  have hex := extract_take ks q
  rw [hK] at hex
  have hqk : (q : Int) ≤ (ks.length : Int) := by omega
  have hm12 : m ≤ 12 := by omega
  have hmc2 : (m : Int) ≤ (cap : Int) := by omega
  have hcr := cut_run A len cap m hmc
  have HN := Lib.hid hN
  have HR := Lib.hid h
  have HM := Lib.hid hM
  have HO := Lib.hid hO
  have HK := Lib.hid hK
  have HS := Lib.hid hS
  clear hN h hM hO hK hS
  go_enter Try.func5, Try.ntmps5
  go_wp2_with fail
  go_quiet (fail)
  have HR1 : Hid (FR (w.drewN nq) A M) := Lib.hid (HR.out.later (bdn (Below.refl _ _) _))
  obtain ⟨w0, hw0⟩ : ∃ w0, w0 = w.drewN nq := ⟨_, rfl⟩
  have hb0 : Below w.heap.size w w0 := by rw [hw0]; exact bdn (Below.refl _ _) _
  rw [← hw0] at HR1 ⊢
  clear hw0 HR
  go_wp2_with fail
  rw [← HM.out]
  refine (join_stop A cap M _ HR1.out (by rw [HM.out]; omega) b HO.out.1 HO.out.2.1 (HN.out _ (List.getElem_mem HO.out.1)) HO.out.2.2.1 HO.out.2.2.2).mono ?_
  rintro e w4 ⟨rfl, hb4⟩
  have hB4 := bt hb0 hb4
  clear hb4
  go_wp2_with fail
  have x1 := HS.out.2.1
  have x2 : (x != 0) = true := by simpa using x1
  have x3 : (n : Int) ≤ (s.length : Int) := by have := HS.out.2.2; omega
  refine (HS.out.1 _).mono ?_
  rintro e w5 ⟨A5, c5, rfl, hF5, hc5, hb5⟩
  have hB5 := bt hB4 hb5
  clear hF5 hb5
  go_wp2_with fail
  refine (alive_any _).mono ?_
  rintro e w7 ⟨rfl, hb7⟩
  go_wp2
  go_ret
  exact ⟨by simp, bt hB5 hb7⟩

theorem back_any (len cap m q : Nat) (s ks : List UInt8) (A : Option Addr) (M : List Fld) (w : World) (hlc : (len : Int) ≤ 9223372036854775807) (hm : min (len : Int) 12 = (m : Int)) (hmc : m ≤ cap) (hM : M.length = m)
    (hq : min (ks.length : Int) 30 = (q : Int)) (hkl : (ks.length : Int) ≤ 9223372036854775807) (hsl : (s.length : Int) ≤ 9223372036854775807) (hN : ∀ x ∈ M, NumF x) (h : FR w A M) :
    Calls Try.prog 5 #[.slice A len cap, .string ⟨s.toArray⟩, .string ⟨ks.toArray⟩] w fun e w' => e = .returned (.bool true) ∧ Below w.heap.size w w' := by
  have hKl : (ks.take q).length ≤ 30 := by rw [List.length_take]; omega
  have hS : (∃ N : List Fld, (∀ w, Calls Try.prog 15 #[.string ⟨s.toArray⟩, .string ⟨(ks.take q).toArray⟩] w (SplitPost w (N, 0, 0))) ∧ encs N = s ∧ kindsOf N = ks.take q ∧ (∀ x ∈ N, OkF x) ∧ (∀ x ∈ N, NumF x) ∧ N.length ≤ 30) ∨
      ∃ (n : Nat) (x : Int), (∀ w, Calls Try.prog 15 #[.string ⟨s.toArray⟩, .string ⟨(ks.take q).toArray⟩] w (SplitPost w ([], n, x))) ∧ ¬ x = 0 ∧ n ≤ s.length := by
    rcases kind_or (ks.take q) with hk | ⟨b, hb, ho, hn⟩
    · rcases split_facts s (ks.take q) 0 [] hk (Nat.zero_le _) (by simp [encs]) (by simp) (by simp) with ⟨N, e1, e2, e3, e4, e5⟩ | ⟨a, e1, e2⟩
      · simp only [kindsOf, List.map_nil, List.nil_append] at e3
        refine .inl ⟨N, fun w => split_ok s _ w _ e1 hk (by omega) hsl, e2, e3, e4, e5, ?_⟩
        have := congrArg List.length e3
        rw [List.length_map] at this
        omega
      · exact .inr ⟨a, 10, fun w => split_ok s _ w _ e1 hk (by omega) hsl, by decide, e2⟩
    · exact .inr ⟨0, 1, fun w => split_bad s _ w b hb ho hn (by omega), by decide, Nat.zero_le _⟩
  rcases okF_or M with hO | ⟨b, hO⟩
  · rcases hS with ⟨N, hS⟩ | ⟨n, x, hS⟩
    · exact back_ok_ok len cap m q s ks _ A M w hlc hm hmc hM hq rfl hkl hN h hO N hS
    · exact back_ok_err len cap m q s ks _ A M w hlc hm hmc hM hq rfl hkl hN h hO n x hS
  · rcases hS with ⟨N, hS⟩ | ⟨n, x, hS⟩
    · exact back_stop_ok len cap m q s ks _ A M w hlc hm hmc hM hq rfl hkl hN h b hO N hS
    · exact back_stop_err len cap m q s ks _ A M w hlc hm hmc hM hq rfl hkl hN h b hO n x hS

set_option maxHeartbeats 1000000 in
set_option maxRecDepth 100000 in
theorem back_lifted (os : Os) (started : os.Started) (H : Type) (enc : TypeId × Value → H) :
    ReturnsInHanded {} Try.checked os 5 .any (Rows.codecBackSpec.pre6 enc Try.prog Try.f5 Rows.codecBackRow.domain false) (Rows.codecBackSpec.post enc Try.prog Try.f5 false true false false) := by
  refine returnsInHanded_of_change (C := Try.checked) Try.own started (by kernel_rfl) Try.func5
    (ChangeSpec.witness6 (enc := enc) (C := Try.checked) false ⟨#[], #[.slice none 0 0, .string ⟨#[]⟩, .string ⟨#[]⟩], []⟩ 8 (by kernel_rfl) (by kernel_rfl) (by kernel_rfl) (by kernel_rfl)) ?_
  intro W base args ds gs before hval0 hW _ _
  have hval : ∀ (j : Nat) t v, Try.f5.params[j]? = some t → args[j]? = some v → Value.okWide Try.prog W .any base t v := hval0
  have hW' := hW
  obtain ⟨p, q, hA0, hV, rfl, _, _⟩ := hW
  have hA : DataW.TrodAll enc Try.prog W 0 (fun _ => true) true Try.f5.params.toList args.toList ds p := hA0
  rw [Try.params5] at hA hval
  obtain ⟨v0, v1, v2, d0, d1, d2, p0, p1, p2, rfl, rfl, rfl, h0, h1, h2⟩ := trodAll_three hA
  obtain ⟨rfl, rfl⟩ := trodVars_none hV
  have h0k := h0
  obtain ⟨A, cap, L, rfl, hlc, hcm, hN, hR⟩ := open_frow (hval 0 23 v0 rfl rfl) h0
  obtain ⟨s, rfl, rfl, rfl, ws⟩ := ChangeMaps.open_string Try.underlying9 (hval 1 9 v1 rfl rfl) h1
  obtain ⟨k, rfl, rfl, rfl, wk⟩ := ChangeMaps.open_string Try.underlying9 (hval 2 9 v2 rfl rfl) h2
  clear hA0 hval0
  simp only [List.append_nil] at hW'
  have hlt : ∀ x ∈ p0, x.block < W.heap.size := fun x hx => by simpa using hW'.lt x hx
  obtain ⟨l, rfl, hl⟩ := str_list s
  obtain ⟨ks, rfl, hk⟩ := str_list k
  have ws' := ws
  have wk' := wk
  unfold maxLen at ws' wk'
  refine (back_any L.length cap (min L.length 12) (min ks.length 30) l ks A (L.take (min L.length 12)) W (by omega) (by omega) (by omega) (by rw [List.length_take]; omega) (by omega) (by omega) (by omega) (fun x hx => hN x (List.mem_of_mem_take hx)) (hR.take _)).mono fun e W' ⟨he, hn⟩ => ?_
  subst he
  refine ⟨_, rfl, ?_⟩
  refine ⟨_, _, _, [], p0 ++ ([] ++ []), [], hW', ?_, trodAll_mk3 (Below.trod Try.laidOut (by kernel_rfl) (of_decide_eq_true (by kernel_rfl)) h0k hn hlt) (ChangeMaps.shut_string Try.underlying9 ws) (ChangeMaps.shut_string Try.underlying9 wk), rfl, hn.frame _, fun h => by cases h⟩
  exact trodAll_mk1 (shut_bool Try.underlying4 true)

/-- CodecBack, for every row of fields and every two texts. -/
theorem back_holds : Rows.CodecBackSaid :=
  OpenClaim.holds_of_wide 5 Try.f5 rfl rfl rfl rfl rfl rfl rfl ⟨rfl, rfl, rfl, rfl, rfl⟩ rfl rfl rfl rfl rfl (by kernel_rfl) Try.func5 (by kernel_rfl)
    (of_decide_eq_true (by kernel_rfl)) (by unfold Func.isWrapper; rw [if_neg (of_decide_eq_false (by kernel_rfl))]; exact ⟨rfl, rfl⟩)
    (fun os started H enc _ => back_lifted os started H enc)
#print axioms back_holds
end Go.Proofs.Ytocipkoheboalaa
