/- alive, the bytes turned round, and CodecRises: true of every two numbers, leaving its arguments as they were. -/
import Derived.Test.YtocipkoheboalaaCNumber
import Derived.Sort.Walk0
import Derived.ProofKit
import Derived.Lib.SmallJoins
namespace Go.Proofs.Ytocipkoheboalaa
open Go.ChangeShapes Go.WideShapes Go.ChangeAt Go.RowKit Go.Joins

set_option maxRecDepth 100000 in
set_option maxHeartbeats 1000000 in
theorem alive_any (w : World) : Calls Try.prog 11 #[] w fun e w' => e = .returned (.bool true) ∧ Below w.heap.size w w' := by
  have hl : low 258 8 = [2, 1, 0, 0, 0, 0, 0, 0] := by decide
  go_enter Try.func11, Try.ntmps11
  go_wp2_with fail
  refine (number_any 258 _ (by omega)).mono ?_
  rintro e w1 ⟨rfl, hb⟩
  rw [hl]
  go_wp2
  go_ret
  exact ⟨by simp, hb⟩

/-- The byte at a place. -/
def nth (l : List UInt8) (t : Nat) : UInt8 := l.getD t 0
/-- What stands at place t, when the k outermost on either side are exchanged. -/
def rv (l : List UInt8) (k t : Nat) : UInt8 := if t < k ∨ l.length - 1 - k < t then nth l (l.length - 1 - t) else nth l t
theorem At.set_far {W : World} {b o q : Nat} {v : Value} (h : At W b o v) (hne : o ≠ q) (u : Value) : At (W.setCell ⟨b, q, none⟩ u) b o v :=
  ⟨(World.cell?_setCell_other W ⟨b, q, none⟩ ⟨b, o, none⟩ u (fun e => hne (by injection e with _ e2 _; exact e2.symm))).trans h.1, by simpa [World.frozen?_setCell] using h.2⟩
theorem At.set_same {W : World} {b o : Nat} {v : Value} (h : At W b o v) (u : Value) : At (W.setCell ⟨b, o, none⟩ u) b o u :=
  ⟨World.cell?_setCell_same _ _ _ h.1, by simpa [World.frozen?_setCell] using h.2⟩

set_option maxRecDepth 100000 in
set_option maxHeartbeats 1000000 in
theorem reverse_any (g cap : Nat) (l : List UInt8) (w : World) (h : ∀ t, t < l.length → At w g t (bv (nth l t))) (hl : l.length ≤ 1048576) :
    Calls Try.prog 19 #[.slice (some ⟨g, 0, none⟩) l.length cap] w fun e w' => e = .returned (.tuple #[]) ∧ (∀ t, t < l.length → At w' g t (bv (nth l (l.length - 1 - t)))) ∧ Off g g w w' := by
  go_enter Try.func19, Try.ntmps19
  go_wp2
  go_loopw [2, 3] (fun iv jv wr => ∃ (k : Nat), k ≤ l.length ∧ iv = .int .i64 k ∧ jv = .int .i64 ((l.length : Int) - 1 - k) ∧ Hid (∀ t, t < l.length → At wr g t (bv (rv l k t))) ∧ Off g g w wr) (fun i _ _ => l.length - (intOf i).toNat)
  case atStart => exact ⟨0, Nat.zero_le _, rfl, by go_num, Lib.hid (fun t ht => by have : rv l 0 t = nth l t := by { unfold rv; rw [if_neg (by omega)] }; rw [this]; exact h t ht), Off.refl _ _ _⟩
  case round =>
    obtain ⟨k, hk, rfl, rfl, HA, ho⟩ := hrel
    by_cases hlt : (k : Int) < (l.length : Int) - 1 - k
    · obtain ⟨j, hj⟩ : ∃ j : Nat, l.length - 1 - k = j := ⟨_, rfl⟩
      have hjz : (l.length : Int) - 1 - k = (j : Int) := by omega
      have A0 := HA.out k (by omega)
      have A1 := HA.out j (by omega)
      obtain ⟨a, ha⟩ : ∃ a, rv l k k = a := ⟨_, rfl⟩
      obtain ⟨b, hb⟩ : ∃ b, rv l k j = b := ⟨_, rfl⟩
      rw [ha] at A0
      rw [hb] at A1
      have hkj : k ≠ j := by omega
      have c0 := A0.1
      have f0 := A0.2
      have c1 := A1.1
      have f1 := A1.2
      have HJ := Lib.hid hj
      rw [hjz] at hlt ⊢
      have i0 : (0 : Int) ≤ (k : Int) := by omega
      have i1 : (k : Int) < (l.length : Int) := by omega
      have i2 : (0 : Int) ≤ (j : Int) := by omega
      have i3 : (j : Int) < (l.length : Int) := by omega
      have hf : ∀ t, t < l.length → At ((wr.setCell ⟨g, k, none⟩ (bv b)).setCell ⟨g, j, none⟩ (bv a)) g t (bv (rv l (k + 1) t)) := fun t ht => by
        by_cases e1 : t = j
        · subst e1
          have e : rv l (k + 1) t = a := by rw [← ha]; unfold rv; rw [if_pos (by omega), if_neg (by omega)]; congr 1; omega
          rw [e]
          exact ((HA.out t ht).set_far (Ne.symm hkj) _).set_same _
        · by_cases e2 : t = k
          · subst e2
            have e : rv l (t + 1) t = b := by rw [← hb]; unfold rv; rw [if_pos (by omega), if_neg (by omega), hj]
            rw [e]
            exact ((HA.out t ht).set_same _).set_far e1 _
          · have e : rv l (k + 1) t = rv l k t := by
              unfold rv
              by_cases h1 : t < k ∨ l.length - 1 - k < t
              · rw [if_pos h1, if_pos (by omega)]
              · rw [if_neg h1, if_neg (by omega)]
            rw [e]
            exact ((HA.out t ht).set_far e2 _).set_far e1 _
      have HF := Lib.hid hf
      clear hf ha hb hj hjz A0 A1 h
      go_wp2_with fail
      go_region
      go_wp2
      exact ⟨⟨k + 1, by omega, by go_num, by have := HJ.out; go_num, HF.out, ((ho.setCell (.inl rfl) _).setCell (.inl rfl) _).drew⟩, by simp [intOf]; omega⟩
    · go_wp2
      go_end0
      refine ⟨rfl, fun t ht => ?_, ho⟩
      have e : rv l k t = nth l (l.length - 1 - t) := by
        unfold rv
        by_cases h1 : t < k ∨ l.length - 1 - k < t
        · rw [if_pos h1]
        · rw [if_neg h1]; congr 1; omega
      rw [← e]
      exact HA.out t ht

theorem nth_reverse (l : List UInt8) (t : Nat) (h : t < l.length) : nth l (l.length - 1 - t) = nth l.reverse t := by
  unfold nth
  simp [List.getD, List.getElem?_reverse h]
theorem nth_get (l : List UInt8) (t : Nat) (h : t < l.length) : nth l t = l[t] := by
  unfold nth
  simp [List.getD, h]

/-- '[]byte(s)': a row of its own that holds the bytes. -/
theorem bytes_of (w : World) (l : List UInt8) : ∃ c w', (convert 9 45 (.string ⟨l.toArray⟩)).run Try.prog w = .ok (.slice (some ⟨w.heap.size, 0, none⟩) l.length c) w' ∧
    (∀ t, t < l.length → At w' w.heap.size t (bv (nth l t))) ∧ Below w.heap.size w w' := by
  have h := run_bytes_of_string (P := Try.prog) w 9 45 5 ⟨l.toArray⟩ Try.underlying9 Try.underlying45 Try.underlying5
  have hsz : (⟨l.toArray⟩ : ByteArray).size = l.length := by simp [ByteArray.size]
  rw [hsz] at h
  refine ⟨_, _, h, fun t ht => ?_, ((Below.refl _ _).drew).alloc (Nat.le_refl _) _⟩
  constructor
  · rw [nth_get l t ht]
    simp [World.cell?, World.alloc, World.drew, -World.alloc_eq, -World.drew_eq, bytesRow]
    rw [Array.getElem?_append_left (by simpa using ht)]
    simp [ht]
  · simp [World.frozen?, World.alloc, World.drew, -World.alloc_eq, -World.drew_eq, bytesRow]
    omega

theorem str_of (w : World) (g c : Nat) (l : List UInt8) (h : ∀ t, t < l.length → At w g t (bv (nth l t))) :
    (convert 45 9 (.slice (some ⟨g, 0, none⟩) l.length c)).run Try.prog w = .ok (.string ⟨l.toArray⟩) w :=
  run_convert_bytes_back (P := Try.prog) w 45 9 5 ⟨g, 0, none⟩ c l Try.underlying45 Try.underlying5 Try.underlying9 (fun j hj => by
    have e : (⟨g, 0, none⟩ : Addr).add j = ⟨g, j, none⟩ := by cases j <;> simp [Addr.add]
    rw [e, (h j hj).1, nth_get l j hj])

/-- A number's bytes as the law compares them. -/
def rlow (n : Nat) : List UInt8 := (low n 8).reverse
theorem rlow_len (n : Nat) : (rlow n).length = 8 := by simp [rlow, low_length]

theorem reverse_low (g c n : Nat) (w : World) (h : ∀ t, t < 8 → At w g t (bv (nth (low n 8) t))) :
    Calls Try.prog 19 #[.slice (some ⟨g, 0, none⟩) 8 c] w fun e w' => e = .returned (.tuple #[]) ∧ (∀ t, t < 8 → At w' g t (bv (nth (rlow n) t))) ∧ Off g g w w' := by
  have hl := low_length n 8
  have h' := reverse_any g c (low n 8) w (by rw [hl]; exact h) (by rw [hl]; omega)
  rw [hl] at h'
  refine h'.mono fun e w' ⟨he, hA, ho⟩ => ⟨he, fun t ht => ?_, ho⟩
  have := nth_reverse (low n 8) t (by rw [hl]; exact ht)
  rw [hl] at this
  unfold rlow
  rw [← this]
  exact hA t ht

set_option maxRecDepth 100000 in
set_option maxHeartbeats 4000000 in
theorem rises_case (n m : Nat) (w : World) (a b : Bool) (hn : (n : Int) ≤ 18446744073709551615) (hm : (m : Int) ≤ 18446744073709551615) (ha : decide (n < m) = a) (hb : decide (n = m) = b) :
    Calls Try.prog 6 #[.int .u64 (n : Int), .int .u64 (m : Int)] w fun e w' => e = .returned (.bool true) ∧ Below w.heap.size w w' := by
  have hless : Op.bytesLess (rlow n) (rlow m) = a := by
    have h := less_low n m 8
    rw [Nat.mod_eq_of_lt (by omega), Nat.mod_eq_of_lt (by omega)] at h
    rw [← ha]
    exact h
  have hsame : (rlow n == rlow m) = b := by
    rw [← hb]
    exact same_low (by omega) (by omega)
  have HL := Lib.hid hless
  have HS := Lib.hid hsame
  have HA := Lib.hid ha
  have HB := Lib.hid hb
  clear hless hsame ha hb
  go_enter Try.func6, Try.ntmps6
  go_wp2_with fail
  refine (number_any n _ hn).mono ?_
  rintro e w1 ⟨rfl, hb1⟩
  obtain ⟨c2, w2, hx2, hA2, hb2⟩ := bytes_of w1 (low n 8)
  rw [low_length] at hx2 hA2
  go_wp2_with fail
  clear hx2
  refine (number_any m _ hm).mono ?_
  rintro e w3 ⟨rfl, hb3⟩
  obtain ⟨c4, w4, hx4, hA4, hb4⟩ := bytes_of w3 (low m 8)
  rw [low_length] at hx4 hA4
  go_wp2_with fail
  clear hx4
  have hw : Below w.heap.size w w4 := bt (bt (bt hb1 hb2) hb3) hb4
  have hne : w1.heap.size ≠ w3.heap.size := by have := (hA2 0 (by omega)).lt; have := hb3.size; omega
  have z1 : w.heap.size ≤ w1.heap.size := hb1.size
  have z3 : w.heap.size ≤ w3.heap.size := (bt (bt hb1 hb2) hb3).size
  have hA3 : ∀ t, t < 8 → At w4 w1.heap.size t (bv (nth (low n 8) t)) := fun t ht => ((hA2 t ht).later hb3).later hb4
  have z4 := hw.size
  obtain ⟨g1, hg1⟩ : ∃ g, w1.heap.size = g := ⟨_, rfl⟩
  obtain ⟨g3, hg3⟩ : ∃ g, w3.heap.size = g := ⟨_, rfl⟩
  rw [hg1] at hne z1 hA3 ⊢
  rw [hg3] at hne z3 hA4 ⊢
  clear hb1 hb2 hb3 hb4 hA2 hg1 hg3
  have H3 := Lib.hid hA3
  have H4 := Lib.hid hA4
  clear hA3 hA4
  refine (reverse_low g1 c2 n _ H3.out).mono ?_
  rintro e w5 ⟨rfl, hA5, ho5⟩
  have H5 := Lib.hid hA5
  clear hA5
  go_wp2_with fail
  refine (reverse_low g3 c4 m _ (fun t ht => ho5.at_ (H4.out t ht) (Ne.symm hne) (Ne.symm hne))).mono ?_
  rintro e w6 ⟨rfl, hA6, ho6⟩
  have H6 := Lib.hid hA6
  have hb6 : Below w.heap.size w w6 := hw.trans ((ho5.below z1 z1 z4).trans (ho6.below z3 z3 (Nat.le_trans z4 ho5.size)))
  clear hA6
  go_wp2_with fail
  refine (alive_any _).mono ?_
  rintro e w7 ⟨rfl, hb7⟩
  have s1 := str_of w7 g1 c2 (rlow n) (fun t ht => (ho6.at_ (H5.out t (by rw [rlow_len] at ht; exact ht)) hne hne).later hb7)
  have s2 := str_of w7 g3 c4 (rlow m) (fun t ht => (H6.out t (by rw [rlow_len] at ht; exact ht)).later hb7)
  rw [rlow_len] at s1 s2
  have e1 := HL.out
  have e2 := HS.out
  have e3 := HA.out
  have e4 := HB.out
  have e5 : (n == m) = b := by rw [← e4, Bool.eq_iff_iff]; simp
  have e6 : ((n : Int) == (m : Int)) = b := by rw [← e4, Bool.eq_iff_iff]; simp; omega
  go_wp2_with fail
  go_ret
  exact ⟨by simp, bt hb6 hb7⟩

theorem Try.own : ownKnob Try.prog.godebug = none := by kernel_rfl
theorem Try.laidOut : laidOutB Try.prog = true := by kernel_rfl
theorem u64_bounds {n : Int} (h : (Lit.int .u64 n).wf = true) : 0 ≤ n ∧ n ≤ 18446744073709551615 := by
  simp [Lit.wf] at h
  exact h

set_option maxHeartbeats 1000000 in
set_option maxRecDepth 100000 in
theorem rises_lifted (os : Os) (started : os.Started) (H : Type) (enc : TypeId × Value → H) :
    ReturnsInHanded {} Try.checked os 6 .any (Rows.codecRisesSpec.pre6 enc Try.prog Try.f6 Rows.codecRisesRow.domain false) (Rows.codecRisesSpec.post enc Try.prog Try.f6 false true false false) := by
  refine returnsInHanded_of_change (C := Try.checked) Try.own started (by kernel_rfl) Try.func6
    (ChangeSpec.witness6 (enc := enc) (C := Try.checked) false ⟨#[], #[.int .u64 0, .int .u64 0], []⟩ 8 (by kernel_rfl) (by kernel_rfl) (by kernel_rfl) (by kernel_rfl)) ?_
  intro W base args ds gs before hval0 hW _ _
  have hval : ∀ (j : Nat) t v, Try.f6.params[j]? = some t → args[j]? = some v → Value.okWide Try.prog W .any base t v := hval0
  have hW' := hW
  obtain ⟨p, q, hA0, hV, rfl, _, _⟩ := hW
  have hA : DataW.TrodAll enc Try.prog W 0 (fun _ => true) true Try.f6.params.toList args.toList ds p := hA0
  rw [Try.params6] at hA hval
  obtain ⟨v0, v1, d0, d1, p0, p1, rfl, rfl, rfl, h0, h1⟩ := trodAll_two hA
  obtain ⟨rfl, rfl⟩ := trodVars_none hV
  obtain ⟨n, rfl, rfl, rfl, wn⟩ := open_int Try.underlying22 (hval 0 22 v0 rfl rfl) h0
  obtain ⟨m, rfl, rfl, rfl, wm⟩ := open_int Try.underlying22 (hval 1 22 v1 rfl rfl) h1
  clear hA0 hval0
  simp only [List.append_nil] at hW'
  obtain ⟨n0, n1⟩ := u64_bounds wn
  obtain ⟨m0, m1⟩ := u64_bounds wm
  obtain ⟨n, rfl⟩ := Int.eq_ofNat_of_zero_le n0
  obtain ⟨m, rfl⟩ := Int.eq_ofNat_of_zero_le m0
  refine (rises_case n m W _ _ n1 m1 rfl rfl).mono fun e W' ⟨he, hn⟩ => ?_
  subst he
  refine ⟨_, rfl, ?_⟩
  refine ⟨_, _, _, [], [], [], hW', ?_, trodAll_mk2 (shut_int Try.underlying22 wn) (shut_int Try.underlying22 wm), rfl, hn.frame _, fun h => by cases h⟩
  exact trodAll_mk1 (shut_bool Try.underlying4 true)

/-- CodecRises, for every two numbers. -/
theorem rises_holds : Rows.CodecRisesSaid :=
  OpenClaim.holds_of_wide 6 Try.f6 rfl rfl rfl rfl rfl rfl rfl ⟨rfl, rfl, rfl, rfl, rfl⟩ rfl rfl rfl rfl rfl (by kernel_rfl) Try.func6 (by kernel_rfl)
    (of_decide_eq_true (by kernel_rfl)) (by unfold Func.isWrapper; rw [if_neg (of_decide_eq_false (by kernel_rfl))]; exact ⟨rfl, rfl⟩)
    (fun os started H enc _ => rises_lifted os started H enc)
#print axioms rises_holds
end Go.Proofs.Ytocipkoheboalaa
