/- ShaMixes is true of every row of words and every text, and leaves them as they were. -/
import Derived.Test.YtdnndmdjnjhpaaaHSums
import Derived.Test.YtdnndmdjnjhpaaaHMixB
import Derived.Test.YtdnndmdjnjhpaaaHMixE
namespace Go.Proofs.Ytdnndmdjnjhpaaa
open Go.ChangeShapes Go.WideShapes Go.ChangeAt Go.RowKit Go.Joins Go.Deep

theorem WR.take {w : World} {A : Option Addr} {L : List Nat} (h : WR w A L) (m : Nat) : WR w A (L.take m) := fun j hj => by
  have hj' : j < L.length := by rw [List.length_take] at hj; omega
  obtain ⟨g, off, e, hc⟩ := h j hj'
  refine ⟨g, off, e, ?_⟩
  rw [wn_get _ _ hj, List.getElem_take]
  rw [wn_get _ _ hj'] at hc
  exact hc

set_option maxRecDepth 100000 in
set_option maxHeartbeats 4000000 in
theorem mixes_any (n cap m : Nat) (A : Option Addr) (L : List Nat) (s : List UInt8) (w : World) (hm : min n 10 = m) (hcap : n ≤ cap) (hcap2 : (cap : Int) ≤ 9223372036854775807) (hL : L.length = m) (hs : (s.length : Int) ≤ 9223372036854775807) (hA : WR w A L) (hLt : ∀ x ∈ L, x < 4294967296) :
    Calls Try.prog 4 #[.slice A n cap, .string ⟨s.toArray⟩] w fun e w' => e = .returned (.bool true) ∧ Below w.heap.size w w' := by
  have HC : Hid (∀ q, Calls Try.prog 13 #[.string ⟨s.toArray⟩] (w.drewN q) fun e w' => e = .returned (.string ⟨(s.take 400).toArray⟩) ∧ ∃ r, w' = w.drewN r) := Lib.hid fun q => (cut_any s (w.drewN q) hs).mono fun _ _ ⟨h, k⟩ => ⟨h, q, k.symm⟩
  generalize s.take 400 = S at HC
  have h2 : min (n : Int) 10 = (m : Int) := by omega
  have h3 : (m : Int) ≤ (n : Int) := by omega
  have h4 : (m : Int) ≤ (cap : Int) := by omega
  have h5 : (0 : Int) ≤ (m : Int) := by omega
  have h6 : (m : Int) ≤ 10 := by omega
  have HL := Lib.hid hL
  have HA := Lib.hid hA
  have HLT := Lib.hid hLt
  have HSZ := Lib.hid (size_of S)
  clear hm hL hA hLt hs
  go_enter Try.func4, Try.ntmps4
  go_wp2_with fail
  go_quiet ((go_at_call 13; exact HC.out _))
  clear h2 h3 h4 h5 h6
  obtain ⟨w1, hw1⟩ := drewN_name w nq
  rw [hw1]
  have hb1 : Below w.heap.size w w1 := by rw [← hw1]; exact bdn' (Below.refl _ _) _
  have HA1 : Hid (WR w1 A L) := Lib.hid (by rw [← hw1]; exact HA.out)
  clear hw1 HA HC
  by_cases hbad : m ≠ 8 ∨ S.length ≠ 64
  · have HM := Lib.hid (mix_bad A m cap S w1 hbad)
    obtain ⟨N, hN⟩ : ∃ N, S.length = N := ⟨_, rfl⟩
    have hz := HSZ.out
    rw [hN] at hz hbad
    by_cases h8 : m = 8
    · have h64 : ((N : Int) != 64) = true := by have : N ≠ 64 := hbad.resolve_left (fun h' => h' h8); simp; omega
      have h8' : ((m : Int) != 8) = false := by simp; omega
      clear hbad h8 hN
      go_wp2_with fail
      refine HM.out.mono ?_
      rintro e w2 ⟨rfl, rfl⟩
      go_wp2_with fail
      refine (alive_any _).mono ?_
      rintro e w3 ⟨rfl, hb3⟩
      go_wp2_with fail
      go_ret
      exact ⟨rfl, bt hb1 hb3⟩
    · have h8' : ((m : Int) != 8) = true := by simp; omega
      clear hbad h8 hN
      go_wp2_with fail
      refine HM.out.mono ?_
      rintro e w2 ⟨rfl, rfl⟩
      go_wp2_with fail
      refine (alive_any _).mono ?_
      rintro e w3 ⟨rfl, hb3⟩
      go_wp2_with fail
      go_ret
      exact ⟨rfl, bt hb1 hb3⟩
  · have h8 : m = 8 := by omega
    have h64 : S.length = 64 := by omega
    subst h8
    clear hbad
    obtain ⟨g0, off0, rfl, _⟩ := HA1.out 0 (by rw [HL.out]; omega)
    have HM := Lib.hid (mix_any (some ⟨g0, off0, none⟩) cap L S w1 HA1.out HL.out HLT.out h64)
    have hz := HSZ.out
    rw [h64] at hz
    have H64 := Lib.hid h64
    clear h64
    go_wp2_with fail
    refine HM.out.mono ?_
    rintro e w2 ⟨q, rfl, _, hk2, hb2⟩
    have R2 : Hid (WR w2 (some ⟨q, 0, none⟩) (mixL L S)) := Lib.hid (WR.blk hk2)
    have HA2 : Hid (WR w2 (some ⟨g0, off0, none⟩) L) := Lib.hid (HA1.out.later hb2)
    have hB2 := bt hb1 hb2
    clear hk2 hb1 hb2 HA1 HM
    go_wp2_with fail
    refine (alive_any _).mono ?_
    rintro e w3 ⟨rfl, hb3⟩
    have R3 : Hid (WR w3 (some ⟨q, 0, none⟩) (mixL L S)) := Lib.hid (R2.out.later hb3)
    have HA3 : Hid (WR w3 (some ⟨g0, off0, none⟩) L) := Lib.hid (HA2.out.later hb3)
    have hB3 := bt hB2 hb3
    clear hB2 hb3 R2 HA2
    have HRS : Hid (RS w3 g0 off0 L) := Lib.hid (fun j hj => by
      obtain ⟨g', off', e, hc⟩ := HA3.out j (by rw [HL.out]; exact hj)
      cases e
      exact hc)
    go_wp2_with fail
    refine (rmix_any rwords_holds g0 off0 cap L S _ HRS.out HLT.out H64.out).mono ?_
    rintro e w4 ⟨v, rfl, hown, hb4⟩
    obtain ⟨g4, c4, rfl⟩ := ownsRow_succ hown
    have R4 : Hid (WR w4 (some ⟨q, 0, none⟩) (mixL L S)) := Lib.hid (R3.out.later hb4)
    have V4 : Hid (WR w4 (some ⟨g4, 0, none⟩) (mixL L S)) := Lib.hid (own_WR hown (mixL_len L S))
    have hB4 := bt hB3 hb4
    clear hB3 hb4 hown
    go_wp2_with fail
    refine (rsame_any (some ⟨q, 0, none⟩) (some ⟨g4, 0, none⟩) 8 c4 8 (mixL L S) _ R4.out V4.out (mixL_len L S) (by omega)).mono ?_
    rintro e w5 ⟨rfl, hb5⟩
    go_wp2_with fail
    go_ret
    exact ⟨rfl, bt hB4 hb5⟩

theorem u32_bounds {n : Int} (h : (Lit.int .u32 n).wf = true) : 0 ≤ n ∧ n ≤ 4294967295 := by
  simp [Lit.wf] at h
  exact h
theorem words_of (zs : List Int) (h : ∀ n ∈ zs, (Lit.int .u32 n).wf = true) : ∃ L : List Nat, zs = L.map (fun x : Nat => (x : Int)) ∧ ∀ x ∈ L, x < 4294967296 := by
  induction zs with
  | nil => exact ⟨[], rfl, fun x hx => by cases hx⟩
  | cons z zs ih =>
    obtain ⟨L, hL, hb⟩ := ih (fun n hn => h n (List.mem_cons_of_mem _ hn))
    have hz := u32_bounds (h z (List.mem_cons_self))
    obtain ⟨x, rfl⟩ := Int.eq_ofNat_of_zero_le hz.1
    refine ⟨x :: L, by rw [hL]; rfl, fun y hy => ?_⟩
    rcases List.mem_cons.1 hy with rfl | hy
    · omega
    · exact hb y hy
theorem open_words {H : Type} {enc : TypeId × Value → H} {W : World} {base : Nat} {sp : Nat → Bool} {r : Reach} {b0 : Nat} {v : Value} {d : DataW H} {p : List MemPlace}
    (hv : Value.okWide Try.prog W r b0 22 v) (h : DataW.Trod enc Try.prog W base sp true 22 v d p) :
    ∃ (A : Option Addr) (cap : Nat) (L : List Nat), v = .slice A L.length cap ∧ L.length ≤ cap ∧ cap ≤ 9223372036854775807 ∧ (∀ x ∈ L, x < 4294967296) ∧ WR W A L := by
  obtain ⟨a0, len0, cap0, rfl⟩ := okWide_slice Try.underlying22 hv
  obtain ⟨fuel, hf⟩ := h
  rcases open_ints Try.underlying22 Try.underlying25 (by kernel_rfl) hf with ⟨hcs, _⟩ | ⟨a, len, cap, zs, hcs, _, hle, hcap, hzl, _, hcell, hwf⟩
  · exact ⟨none, 0, [], by simpa [Value.cells] using hcs, Nat.le_refl _, by omega, by simp, fun j hj => by cases hj⟩
  · have hlz : len ≤ zs.length := by rw [hzl]; split <;> omega
    obtain ⟨L, hL, hb⟩ := words_of zs hwf
    have hLl : L.length = zs.length := by rw [hL, List.length_map]
    unfold maxLen at hcap
    have htl : (L.take len).length = len := by rw [List.length_take]; omega
    refine ⟨some a, cap, L.take len, by rw [htl]; simpa [Value.cells] using hcs, by omega, hcap, fun x hx => hb x (List.mem_of_mem_take hx), fun j hj => ?_⟩
    rw [htl] at hj
    have hc := hcell j (by omega)
    obtain ⟨g, off, s⟩ := a
    have hs : s = none := by
      have := hcell 0 (by omega)
      simpa [Addr.add] using World.cell?_spot this
    subst hs
    rw [Go.WideShapes.add_plain] at hc
    refine ⟨g, off, rfl, ?_⟩
    rw [hc, wn_get _ _ (by omega), List.getElem_take, hL]
    have : j < L.length := by omega
    simp [List.getD, this]

set_option maxHeartbeats 1000000 in
set_option maxRecDepth 100000 in
theorem mixes_lifted (os : Os) (started : os.Started) (H : Type) (enc : TypeId × Value → H) :
    ReturnsInHanded {} Try.checked os 4 .any (Rows.shaMixesSpec.pre6 enc Try.prog Try.f4 Rows.shaMixesRow.domain false) (Rows.shaMixesSpec.post enc Try.prog Try.f4 false true false false) := by
  refine returnsInHanded_of_change (C := Try.checked) Try.own started (by kernel_rfl) Try.func4
    (ChangeSpec.witness6 (enc := enc) (C := Try.checked) false ⟨#[], #[.slice none 0 0, .string ⟨#[]⟩], []⟩ 8 (by kernel_rfl) (by kernel_rfl) (by kernel_rfl) (by kernel_rfl)) ?_
  intro W base args ds gs before hval0 hW _ _
  have hval : ∀ (j : Nat) t v, Try.f4.params[j]? = some t → args[j]? = some v → Value.okWide Try.prog W .any base t v := hval0
  have hW' := hW
  obtain ⟨p, q, hA0, hV, rfl, _, _⟩ := hW
  have hA : DataW.TrodAll enc Try.prog W 0 (fun _ => true) true Try.f4.params.toList args.toList ds p := hA0
  rw [Try.params4] at hA hval
  obtain ⟨v0, v1, d0, d1, p0, p1, rfl, rfl, rfl, h0, h1⟩ := trodAll_two hA
  obtain ⟨rfl, rfl⟩ := trodVars_none hV
  have h0k := h0
  obtain ⟨s1, rfl, rfl, rfl, ws1⟩ := ChangeMaps.open_string Try.underlying9 (hval 1 9 v1 rfl rfl) h1
  obtain ⟨A, cap, L, rfl, hlc, hcm, hN, hR⟩ := open_words (hval 0 22 v0 rfl rfl) h0
  clear hA0 hval0
  simp only [List.append_nil] at hW'
  have hlt : ∀ x ∈ p0, x.block < W.heap.size := fun x hx => by simpa using hW'.lt x hx
  obtain ⟨l1, rfl, hl1⟩ := str_list s1
  have ws1' := ws1
  unfold maxLen at ws1'
  refine (mixes_any L.length cap (min L.length 10) A (L.take (min L.length 10)) l1 W rfl (by omega) (by omega) (by rw [List.length_take]; omega) (by omega) (hR.take _) (fun x hx => hN x (List.mem_of_mem_take hx))).mono fun e W' ⟨he, hn⟩ => ?_
  subst he
  refine ⟨_, rfl, ?_⟩
  refine ⟨_, _, _, [], p0 ++ [], [], hW', ?_, trodAll_mk2 (Below.trod Try.laidOut (by kernel_rfl) (of_decide_eq_true (by kernel_rfl)) h0k hn hlt) (ChangeMaps.shut_string Try.underlying9 ws1), rfl, hn.frame _, fun h => by cases h⟩
  exact trodAll_mk1 (shut_bool Try.underlying4 true)

/-- ShaMixes, for every input. -/
theorem mixes_holds : Rows.ShaMixesSaid :=
  OpenClaim.holds_of_wide 4 Try.f4 rfl rfl rfl rfl rfl rfl rfl ⟨rfl, rfl, rfl, rfl, rfl⟩ rfl rfl rfl rfl rfl (by kernel_rfl) Try.func4 (by kernel_rfl)
    (of_decide_eq_true (by kernel_rfl)) (by unfold Func.isWrapper; rw [if_neg (of_decide_eq_false (by kernel_rfl))]; exact ⟨rfl, rfl⟩)
    (fun os started H enc _ => mixes_lifted os started H enc)
#print axioms mixes_holds
end Go.Proofs.Ytdnndmdjnjhpaaa
