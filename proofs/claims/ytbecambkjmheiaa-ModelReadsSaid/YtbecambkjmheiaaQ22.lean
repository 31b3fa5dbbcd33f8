/- Texts of this seat, one behind the other: NLawR, NOpen. -/
import Derived.Deep.Strs
import Derived.ChangeSlices
import Derived.Test.YtbecambkjmheiaaQ03
import Derived.Test.YtbecambkjmheiaaQ06
import Derived.Test.YtbecambkjmheiaaQ20
import Derived.Test.YtbecambkjmheiaaQ21
/- The law ModelReads: its body, for whatever cells, data and byte. -/
namespace Go.Proofs.Ytbecambkjmheiaa
open Go.RowKit

set_option maxRecDepth 100000 in
set_option maxHeartbeats 8000000 in
theorem nreads_holds (A : Option Addr) (n c f m : Nat) (q : Int) (L0 : List CL) (data : List UInt8) (w : World) (hA : CR w A L0) (hl : L0.length = n) (hc : n ≤ c) (hf : f < 18446744073709551616) (hm : m < 18446744073709551616) :
    Calls Try.prog 5 #[.slice A n c, .int .i64 q, vu f, sv data, vu m] w fun e w' => e = .returned (.bool true) ∧ Below w.heap.size w w' := by
  have HFew := Lib.hid (fun W (hb : Below w.heap.size w W) => nfew_any A n c L0 W (hA.later hb) hl hc)
  have HAl := Lib.hid (fun W => nalive_any W)
  have HLL := Lib.hid (cFew_len L0)
  obtain ⟨D, hD⟩ : ∃ D, data.take 230 = D := ⟨_, rfl⟩
  have hDl : D.length ≤ 230 := by rw [← hD]; simp; omega
  obtain ⟨k, hk⟩ : ∃ k, min data.length 230 = k := ⟨_, rfl⟩
  have hmin : min ((data.length : Nat) : Int) 230 = (k : Int) := by omega
  have hkl : k ≤ data.length := by omega
  have hki : (k : Int) ≤ ((data.length : Nat) : Int) := by omega
  have hsz := size_of data
  have hx : (⟨data.toArray⟩ : ByteArray).extract 0 k = ⟨D.toArray⟩ := by
    rw [nextract, List.drop_zero, ← hk, ← hD]
    congr 2
    rcases Nat.le_total data.length 230 with h | h
    · rw [Nat.min_eq_left h, List.take_length, List.take_of_length_le h]
    · rw [Nat.min_eq_right h]
  have hszD := size_of D
  clear hD hk hA hl hc
  generalize cFew L0 = L at *
  have HRp := Lib.hid (fun W => rep_any D.length W (by omega))
  have hw : IntKind.u64.wrap ((D.length : Nat) : Int) = ((D.length : Nat) : Int) := IntWalk.u64_in _ ⟨by omega, by omega⟩
  go_enter Try.func5, Try.ntmps5
  go_wp2
  refine wp_region_held_drew (S := fun W => Below w.heap.size w W) (by kernel_rfl) ((Below.refl _ _).drew) (fun hHeld => ?_)
  refine wpAnyH_take (i := 0) (oi := ⟨some 23, _, _, _, _, _⟩) (v := ?_) rfl (by kernel_rfl) (by kernel_rfl) (by kernel_rfl) (fun _ _ _ h => h) (Or.inl ⟨by rfl, ?_⟩) (by assumption) ?_
  rotate_left
  · (intro w9 hSw; (try dsimp only at hSw); go_simp; try with_reducible rfl)
  try simp only [Act.put, List.setIfInBounds_toArray, List.set_cons_zero, List.set_cons_succ]
  refine wpAnyH_take (i := 2) (oi := ⟨some 25, _, _, _, _, _⟩) (v := ?_) rfl (by kernel_rfl) (by kernel_rfl) (by kernel_rfl) (fun _ _ _ h => h) (Or.inl ⟨by rfl, ?_⟩) (by assumption) ?_
  rotate_left
  · (intro w9 hSw; (try dsimp only at hSw); go_simp; try with_reducible rfl)
  try simp only [Act.put, List.setIfInBounds_toArray, List.set_cons_zero, List.set_cons_succ]
  refine wpAnyH_take (i := 3) (oi := ⟨some 26, _, _, _, _, _⟩) (v := ?_) rfl (by kernel_rfl) (by kernel_rfl) (by kernel_rfl) (fun _ _ _ h => h) (Or.inl ⟨by rfl, ?_⟩) (by assumption) ?_
  rotate_left
  · (intro w9 hSw; (try dsimp only at hSw); go_simp; try with_reducible rfl)
  try simp only [Act.put, List.setIfInBounds_toArray, List.set_cons_zero, List.set_cons_succ]
  refine wpAnyH_take (i := 4) (oi := ⟨some 27, _, _, _, _, _⟩) (v := ?_) rfl (by kernel_rfl) (by kernel_rfl) (by kernel_rfl) (fun _ _ _ h => h) (Or.inl ⟨by rfl, ?_⟩) (by assumption) ?_
  rotate_left
  · (intro w9 hSw; (try dsimp only at hSw); go_simp; try with_reducible rfl)
  try simp only [Act.put, List.setIfInBounds_toArray, List.set_cons_zero, List.set_cons_succ]
  refine wpAnyH_take (i := 5) (oi := ⟨some 28, _, _, _, _, _⟩) (v := ?_) rfl (by kernel_rfl) (by kernel_rfl) (by kernel_rfl) (fun _ _ _ h => h) (Or.inl ⟨by rfl, ?_⟩) (by assumption) ?_
  rotate_left
  · (intro w9 hSw; (try dsimp only at hSw); go_simp; try with_reducible rfl)
  try simp only [Act.put, List.setIfInBounds_toArray, List.set_cons_zero, List.set_cons_succ]
  refine wpAnyH_take (i := 6) (oi := ⟨some 29, _, _, _, _, _⟩) (v := ?_) rfl (by kernel_rfl) (by kernel_rfl) (by kernel_rfl) (fun _ _ _ h => h) (Or.inl ⟨by rfl, ?_⟩) (by assumption) ?_
  rotate_left
  · (intro w9 hSw; (try dsimp only at hSw); go_simp; try with_reducible rfl)
  try simp only [Act.put, List.setIfInBounds_toArray, List.set_cons_zero, List.set_cons_succ]
  refine wpAnyH_ready (rs := [1]) (by kernel_rfl) (by simp) ?_
  refine AllReadyH.cons (o := ⟨some 24, _, _, _, _, _⟩) rfl (fun K9 hK9 => ?_) AllReadyH.nil
  go_simp; go_at_call 6
  refine (HFew.out _ (Below.refl _ _).drew).mono ?_
  rintro e w1 ⟨B, d, rfl, k1, k2, k3, k4⟩
  have hb1 : Below w.heap.size w w1 := (Below.refl _ _).drew.trans k4
  refine hK9.out _ _ ?_ (fun hHeld => ?_)
  · exact hb1
  clear hK9 K9
  try simp only [Act.put, List.setIfInBounds_toArray, List.set_cons_zero, List.set_cons_succ]
  refine wpAnyH_take (i := 7) (oi := ⟨some 0, _, _, _, _, _⟩) (v := ?_) rfl (by kernel_rfl) (by kernel_rfl) (by kernel_rfl) (fun _ _ _ h => h) (Or.inl ⟨by rfl, ?_⟩) (by assumption) ?_
  rotate_left
  · (intro w9 hSw; (try dsimp only at hSw); go_simp; try with_reducible rfl)
  try simp only [Act.put, List.setIfInBounds_toArray, List.set_cons_zero]
  refine wpAnyH_take (i := 8) (oi := ⟨some 3, _, _, _, _, _⟩) (v := ?_) rfl (by kernel_rfl) (by kernel_rfl) (by kernel_rfl) (fun _ _ _ h => h) (Or.inl ⟨by rfl, ?_⟩) (by assumption) ?_
  rotate_left
  · (intro w9 hSw; (try dsimp only at hSw); go_simp; try with_reducible rfl)
  try simp only [Act.put, List.setIfInBounds_toArray, List.set_cons_zero, List.set_cons_succ]
  refine wpAnyH_done (by kernel_rfl) ?_ _
  have HB1 := Lib.hid hb1
  have HC1 := Lib.hid k3
  have hdL : L.length ≤ d := k1
  have hB0 := Lib.hid k2
  clear hb1 k4 k3 k2 k1 HFew hx hmin hkl hki hsz
  -- Read
  have HRd : Hid (∀ W, Below w1.heap.size w1 W → Calls Try.prog 13 #[.slice B L.length d, .agg #[vu f, vu D.length]] W fun e w' => e = .returned (.tuple #[sv (cText L f D.length), .int .i64 (cWhy L f D.length)]) ∧ Below W.heap.size W w') := Lib.hid fun W hb => nread_any B L.length d f D.length L W (HC1.out.later hb) rfl (by have := HLL.out; omega) hf (by omega)
  have HDi : Hid (∀ W, Below w1.heap.size w1 W → Calls Try.prog 11 #[.slice B L.length d, .agg #[vu f, vu D.length]] W fun e w' => ∃ B2 d2, e = .returned (.tuple #[.slice B2 (cNow L f D.length (FD f D.length)).length d2, .int .i64 (cWhy L f D.length)]) ∧ (cNow L f D.length (FD f D.length)).length ≤ d2 ∧ (B2 = none → d2 = 0) ∧ CR w' B2 (cNow L f D.length (FD f D.length)) ∧ Below W.heap.size W w') := Lib.hid fun W hb => ndiscard_any B L.length d f D.length L W (HC1.out.later hb) rfl hB0.out (by have := HLL.out; omega) hf (by omega)
  have HZe : Hid (∀ W, Below w1.heap.size w1 W → Calls Try.prog 12 #[.slice B L.length d, .agg #[vu f, vu D.length]] W fun e w' => ∃ B2 d2, e = .returned (.tuple #[.slice B2 (cNow L f D.length (FZ f D.length)).length d2, .int .i64 (cWhy L f D.length)]) ∧ (cNow L f D.length (FZ f D.length)).length ≤ d2 ∧ (B2 = none → d2 = 0) ∧ CR w' B2 (cNow L f D.length (FZ f D.length)) ∧ Below W.heap.size W w') := Lib.hid fun W hb => nzero_any B L.length d f D.length L W (HC1.out.later hb) rfl hB0.out (by have := HLL.out; omega) hf (by omega)
  have HWr : Hid (∀ W, Below w1.heap.size w1 W → Calls Try.prog 7 #[.slice B L.length d, .int .i64 q, vu f, sv D] W fun e w' => ∃ B2 d2, e = .returned (.tuple #[.slice B2 (cwN q L f D.length (FW D f)).length d2, .int .i64 (cwE q L f D.length (FW D f))]) ∧ (cwN q L f D.length (FW D f)).length ≤ d2 ∧ (B2 = none → d2 = 0) ∧ CR w' B2 (cwN q L f D.length (FW D f)) ∧ Below W.heap.size W w') := Lib.hid fun W hb => nwrite_any B L.length d f q L D W (HC1.out.later hb) rfl hB0.out (by have := HLL.out; omega) hf (by omega)
  have HRs : Hid (∀ W, Below w1.heap.size w1 W → Calls Try.prog 8 #[.slice B L.length d, .int .i64 q, .agg #[vu f, vu D.length]] W fun e w' => ∃ B2 d2, e = .returned (.tuple #[.slice B2 (cwN q L f D.length (FR f D.length)).length d2, .int .i64 (cwE q L f D.length (FR f D.length))]) ∧ (cwN q L f D.length (FR f D.length)).length ≤ d2 ∧ (B2 = none → d2 = 0) ∧ CR w' B2 (cwN q L f D.length (FR f D.length)) ∧ Below W.heap.size W w') := Lib.hid fun W hb => nreserve_any B L.length d f D.length q L W (HC1.out.later hb) rfl hB0.out (by have := HLL.out; omega) hf (by omega)
  have HSB : Hid (∀ W, Below w1.heap.size w1 W → Below w1.heap.size w1 (W.alloc (.cells #[vu f, vu D.length] 25))) := Lib.hid fun W hb => ba hb _
  by_cases h0 : cWhy L f D.length = 0
  · have HGd := Lib.hid (ngood_d h0)
    have HGz := Lib.hid (ngood_z h0)
    have HGw : Hid (cwE q L f D.length (FW D f) = 0 → NGood L (cwN q L f D.length (FW D f)) f D.length D) := Lib.hid (ngood_w h0)
    have HGr : Hid (cwE q L f D.length (FR f D.length) = 0 → NGood L (cwN q L f D.length (FR f D.length)) f D.length (cread L f D.length)) := Lib.hid (ngood_r h0)
    have HW0 := Lib.hid h0
    have hct : cText L f D.length = cread L f D.length := by rw [cText, if_pos h0]
    rw [hct, h0] at HRd
    rw [h0] at HDi HZe
    generalize cNow L f D.length (FD f D.length) = ND at *
    generalize cNow L f D.length (FZ f D.length) = NZ at *
    generalize cwN q L f D.length (FW D f) = NW at *
    generalize cwN q L f D.length (FR f D.length) = NR at *
    generalize cwE q L f D.length (FW D f) = EW at *
    generalize cwE q L f D.length (FR f D.length) = ER at *
    generalize hold : cread L f D.length = old at *
    generalize hZ : List.replicate D.length (0 : UInt8) = Zs at *
    clear hct h0 hold hZ
    go_wp2_with fail
    refine (HRd.out _ (ba (Below.refl _ _) _)).mono ?_
    rintro e w2 ⟨rfl, hb2⟩
    obtain ⟨r0, _⟩ := At.later (v := vu f) (b := w1.heap.size) (o := 0) ⟨by go_simp, by go_simp⟩ hb2
    obtain ⟨r1, _⟩ := At.later (v := vu D.length) (b := w1.heap.size) (o := 1) ⟨by go_simp, by go_simp⟩ hb2
    have HB2 := Lib.hid (bt (ba (Below.refl w1.heap.size w1) _) hb2)
    clear hb2
    go_wp2_with fail
    refine (HDi.out _ HB2.out).mono ?_
    rintro e w3 ⟨B3, d3, rfl, k1, k2, k3, hb3⟩
    have HC3 := Lib.hid k3
    have r0 := cell_later hb3 r0
    have r1 := cell_later hb3 r1
    have HB3 := Lib.hid (bt HB2.out hb3)
    clear hb3 k1 k2 k3
    go_wp2_with fail
    refine (HZe.out _ HB3.out).mono ?_
    rintro e w4 ⟨B4, d4, rfl, k1, k2, k3, hb4⟩
    have HC4 := Lib.hid k3
    have r0 := cell_later hb4 r0
    have r1 := cell_later hb4 r1
    have HC3 := Lib.hid (HC3.out.later hb4)
    have HB4 := Lib.hid (bt HB3.out hb4)
    clear hb4 k1 k2 k3
    have hl3 : ¬ ((L.length : Int) < (ND.length : Int)) := by have := HGd.out.2; omega
    have hl3n : ¬ (L.length < ND.length) := by have := HGd.out.2; omega
    have hl4 : ¬ ((L.length : Int) < (NZ.length : Int)) := by have := HGz.out.2; omega
    have hl4n : ¬ (L.length < NZ.length) := by have := HGz.out.2; omega
    have HR3 : Hid (∀ W, Below w4.heap.size w4 W → Calls Try.prog 14 #[.slice B3 ND.length d3] W fun e w' => e = .returned (.bool true) ∧ Below W.heap.size W w') := Lib.hid fun W hb => by
      have := nright_any B3 ND.length d3 ND W (HC3.out.later hb) rfl HGd.out.1.2.1
      rw [decide_eq_true HGd.out.1.1] at this
      exact this
    have HR4 : Hid (∀ W, Below w4.heap.size w4 W → Calls Try.prog 14 #[.slice B4 NZ.length d4] W fun e w' => e = .returned (.bool true) ∧ Below W.heap.size W w') := Lib.hid fun W hb => by
      have := nright_any B4 NZ.length d4 NZ W (HC4.out.later hb) rfl HGz.out.1.2.1
      rw [decide_eq_true HGz.out.1.1] at this
      exact this
    go_wp2_with fail
    refine (HR3.out _ (Below.refl _ _)).mono ?_
    rintro e w5 ⟨rfl, hb5⟩
    have HB45 := Lib.hid hb5
    have r0 := cell_later hb5 r0
    have r1 := cell_later hb5 r1
    clear hb5
    go_wp2_with fail
    refine (HR4.out _ HB45.out).mono ?_
    rintro e w6 ⟨rfl, hb6⟩
    have HB46 := Lib.hid (bt HB45.out hb6)
    have r0 := cell_later hb6 r0
    have r1 := cell_later hb6 r1
    clear hb6
    go_wp2_with fail
    refine (HAl.out _).mono ?_
    rintro e w7 ⟨rfl, hb7⟩
    have HB47 := Lib.hid (bt HB46.out hb7)
    have r0 := cell_later hb7 r0
    have r1 := cell_later hb7 r1
    clear hb7
    go_wp2_with fail
    refine (HRp.out _).mono ?_
    rintro e w8 ⟨rfl, hb8⟩
    have HB48 := Lib.hid (bt HB47.out hb8)
    have r0 := cell_later hb8 r0
    have r1 := cell_later hb8 r1
    clear hb8
    have HB8 := Lib.hid (bt HB4.out HB48.out)
    go_wp2_with fail
    refine (HWr.out _ HB8.out).mono ?_
    rintro e w9 ⟨B9, d9, rfl, k1, k2, k3, hb9⟩
    have HC9 := Lib.hid k3
    have r0 := cell_later hb9 r0
    have r1 := cell_later hb9 r1
    have HB9 := Lib.hid (bt HB8.out hb9)
    have HB49 := Lib.hid (bt HB48.out hb9)
    clear hb9 k1 k2 k3
    go_wp2_with fail
    refine (HRs.out _ HB9.out).mono ?_
    rintro e wA ⟨BA, dA, rfl, k1, k2, k3, hbA⟩
    have HCA := Lib.hid k3
    have r0 := cell_later hbA r0
    have r1 := cell_later hbA r1
    have HC9 := Lib.hid (HC9.out.later hbA)
    have HBA := Lib.hid (bt HB9.out hbA)
    have HB4A := Lib.hid (bt HB49.out hbA)
    clear hbA k1 k2 k3
    have HSd : Hid (∀ W, Below wA.heap.size wA W → Calls Try.prog 16 #[.slice B3 ND.length d3, .agg #[vu f, vu D.length], sv Zs, .slice B L.length d, vu m] W fun e w' => e = .returned (.bool true) ∧ Below W.heap.size W w') := Lib.hid fun W hb => nsame_good (HC3.out.later (bt HB4A.out hb)) rfl (HC1.out.later (bt HBA.out hb)) rfl HGd.out.1 HW0.out hm
    have HSz : Hid (∀ W, Below wA.heap.size wA W → Calls Try.prog 16 #[.slice B4 NZ.length d4, .agg #[vu f, vu D.length], sv Zs, .slice B L.length d, vu m] W fun e w' => e = .returned (.bool true) ∧ Below W.heap.size W w') := Lib.hid fun W hb => nsame_good (HC4.out.later (bt HB4A.out hb)) rfl (HC1.out.later (bt HBA.out hb)) rfl HGz.out.1 HW0.out hm
    have HSw : Hid (EW = 0 → ∀ W, Below wA.heap.size wA W → Calls Try.prog 16 #[.slice B9 NW.length d9, .agg #[vu f, vu D.length], sv D, .slice B L.length d, vu m] W fun e w' => e = .returned (.bool true) ∧ Below W.heap.size W w') := Lib.hid fun h9 W hb => nsame_good (HC9.out.later hb) rfl (HC1.out.later (bt HBA.out hb)) rfl (HGw.out h9) HW0.out hm
    have HSr : Hid (ER = 0 → ∀ W, Below wA.heap.size wA W → Calls Try.prog 16 #[.slice BA NR.length dA, .agg #[vu f, vu D.length], sv old, .slice B L.length d, vu m] W fun e w' => e = .returned (.bool true) ∧ Below W.heap.size W w') := Lib.hid fun h9 W hb => nsame_good (HCA.out.later hb) rfl (HC1.out.later (bt HBA.out hb)) rfl (HGr.out h9) HW0.out hm
    have HFin : Hid (∀ W, Below wA.heap.size wA W → Below w.heap.size w W) := Lib.hid fun W hb => bt HB1.out (bt HBA.out hb)
    clear hl3 hl3n hl4 hl4n
    go_wp2_with fail
    refine (HSd.out _ (Below.refl _ _)).mono ?_
    rintro e v1 ⟨rfl, vb1⟩
    have VB1 := Lib.hid vb1
    have r0 := cell_later vb1 r0
    have r1 := cell_later vb1 r1
    clear vb1
    go_wp2_with fail
    refine (HSz.out _ VB1.out).mono ?_
    rintro e v2 ⟨rfl, vb2⟩
    have VB2 := Lib.hid (bt VB1.out vb2)
    have r0 := cell_later vb2 r0
    have r1 := cell_later vb2 r1
    clear vb2
    by_cases hew : EW = 0
    · subst hew
      have HSw2 := Lib.hid (HSw.out rfl)
      go_wp2_with fail
      refine (HSw2.out _ VB2.out).mono ?_
      rintro e v3 ⟨rfl, vb3⟩
      have VB3 := Lib.hid (bt VB2.out vb3)
      have r0 := cell_later vb3 r0
      have r1 := cell_later vb3 r1
      clear vb3
      by_cases her : ER = 0
      · subst her
        have HSr2 := Lib.hid (HSr.out rfl)
        go_wp2_with fail
        refine (HSr2.out _ VB3.out).mono ?_
        rintro e v4 ⟨rfl, vb4⟩
        have VB4 := Lib.hid (bt VB3.out vb4)
        clear vb4
        go_wp2
        go_ret
        exact ⟨by simp, HFin.out _ VB4.out⟩
      · have her2 : decide (ER = 0) = false := by simpa using her
        go_wp2
        go_ret
        exact ⟨by simp, HFin.out _ VB3.out⟩
    · have hew2 : decide (EW = 0) = false := by simpa using hew
      have VB3 := VB2
      by_cases her : ER = 0
      · subst her
        have HSr2 := Lib.hid (HSr.out rfl)
        go_wp2_with fail
        refine (HSr2.out _ VB3.out).mono ?_
        rintro e v4 ⟨rfl, vb4⟩
        have VB4 := Lib.hid (bt VB3.out vb4)
        clear vb4
        go_wp2
        go_ret
        exact ⟨by simp, HFin.out _ VB4.out⟩
      · have her2 : decide (ER = 0) = false := by simpa using her
        go_wp2
        go_ret
        exact ⟨by simp, HFin.out _ VB3.out⟩
  · have hE : decide (cWhy L f D.length = 0) = false := by simpa using h0
    have hct : cText L f D.length = [] := by rw [cText, if_neg h0]
    rw [hct] at HRd
    generalize cWhy L f D.length = E at *
    clear hct HDi HZe HWr HRs
    go_wp2_with fail
    refine (HRd.out _ (ba (Below.refl _ _) _)).mono ?_
    rintro e w2 ⟨rfl, hb2⟩
    have HB2 := Lib.hid (bt HB1.out (bt (ba (Below.refl w1.heap.size w1) _) hb2))
    clear hb2
    go_wp2_with fail
    refine (HAl.out _).mono ?_
    rintro e w3 ⟨rfl, hb3⟩
    have HB3 := Lib.hid (bt HB2.out hb3)
    clear hb3
    go_wp2
    go_ret
    exact ⟨by simp, HB3.out⟩
end Go.Proofs.Ytbecambkjmheiaa
/- Cells, and a span, that came in as parameters, opened. -/
namespace Go.Proofs.Ytbecambkjmheiaa
open Go.ChangeShapes Go.WideShapes Go.ChangeAt Go.RowKit Go.Joins Go.Deep
theorem cellsCl : Try.prog.cellsOf 45 = 3 := by kernel_rfl
theorem cellsSp : Try.prog.cellsOf 25 = 2 := by kernel_rfl

set_option maxRecDepth 100000 in
theorem open_cells_in {H : Type} {enc : TypeId × Value → H} {W : World} {base fuel : Nat} {sp : Nat → Bool} {x : Value} {y : DataW H × List MemPlace}
    (hf : DataW.trod enc Try.prog W base sp true fuel 22 [x] = some y) :
    ∃ (A : Option Addr) (cap : Nat) (L : List CL), x = .slice A L.length cap ∧ L.length ≤ cap ∧ CR W A L := by
  rcases iopen_slice_fields Try.underlying22 Try.underlying45 (by kernel_rfl) cellsCl hf with ⟨hcs, _⟩ | ⟨a, len, cap, m, D, Pl, hcs, _, hle, hcap, hm, _, hi⟩
  · exact ⟨none, 0, [], by simpa using hcs, Nat.le_refl _, CR.nil _ _⟩
  · have hml : len ≤ m := by rw [hm]; split <;> omega
    obtain ⟨L, hL, hq⟩ := ilist_of (Q := fun i (q : CL) => W.cell? (a.add (i * 3)) = some (vu q.n) ∧ W.cell? (a.add (i * 3 + 1)) = some (.int .i64 q.s) ∧ W.cell? (a.add (i * 3 + 2)) = some (sv q.d)) len (fun i hil => by
      obtain ⟨ys, n, _, _, _, hff⟩ := hi i (by omega)
      obtain ⟨u0, y0, c0, _, t0⟩ := hff 0 _ rfl
      obtain ⟨u1, y1, c1, _, t1⟩ := hff 1 _ rfl
      obtain ⟨u2, y2, c2, _, t2⟩ := hff 2 _ rfl
      obtain ⟨x0, e0, _, w0⟩ := DataW.trod_int Try.underlying23 t0
      obtain ⟨x1, e1, _, w1⟩ := DataW.trod_int Try.underlying3 t1
      obtain ⟨s, e2, _, ws⟩ := DataW.trod_string Try.underlying9 t2
      simp at e0 e1 e2
      subst e0 e1 e2
      obtain ⟨l, rfl, hl⟩ := str_list s
      obtain ⟨m, rfl, hlt⟩ := u64_nat w0
      exact ⟨⟨m, x1, l⟩, c0, c1, c2⟩)
    refine ⟨some a, cap, L, by rw [hL]; simpa using hcs, by omega, fun j hj => ?_⟩
    obtain ⟨q0, q1, q2⟩ := hq j hj
    obtain ⟨g, off, s⟩ := a
    have hs : s = none := by
      have := (hq 0 (by omega)).1
      simpa [Addr.add] using World.cell?_spot this
    subst hs
    rw [Go.WideShapes.add_plain] at q0 q1 q2
    rw [← Nat.add_assoc] at q1 q2
    have e : L.getD j default = L[j] := by simp [List.getD, hj]
    rw [e]
    exact ⟨g, off, rfl, q0, q1, q2⟩
set_option maxRecDepth 100000 in
theorem open_cells {H : Type} {enc : TypeId × Value → H} {W : World} {base : Nat} {sp : Nat → Bool} {r : Reach} {b0 : Nat} {v : Value} {d : DataW H} {p : List MemPlace}
    (hv : Value.okWide Try.prog W r b0 22 v) (h : DataW.Trod enc Try.prog W base sp true 22 v d p) :
    ∃ (A : Option Addr) (cap : Nat) (L : List CL), v = .slice A L.length cap ∧ L.length ≤ cap ∧ CR W A L := by
  obtain ⟨a0, len0, cap0, rfl⟩ := okWide_slice Try.underlying22 hv
  obtain ⟨fuel, hf⟩ := h
  exact open_cells_in (by simpa [Value.cells] using hf)
set_option maxRecDepth 100000 in
theorem open_nspan {H : Type} {enc : TypeId × Value → H} {W : World} {base : Nat} {sp : Nat → Bool} {r : Reach} {b0 : Nat} {v : Value} {d : DataW H} {p : List MemPlace}
    (hv : Value.okWide Try.prog W r b0 25 v) (h : DataW.Trod enc Try.prog W base sp true 25 v d p) :
    ∃ (f n : Nat), v = .agg #[vu f, vu n] ∧ f < 18446744073709551616 ∧ n < 18446744073709551616 := by
  obtain ⟨cs, rfl, hcs⟩ := okWide_struct Try.underlying25 hv
  obtain ⟨fuel, hf⟩ := h
  rw [cellsSp] at hcs
  obtain ⟨x, y, rfl⟩ : ∃ x y, cs = #[x, y] := by
    obtain ⟨l⟩ := cs
    match l, hcs with
    | [x, y], _ => exact ⟨x, y, rfl⟩
  obtain ⟨y0, y1, n, _, _, t0, t1⟩ := trod_struct2 Try.underlying25 hf
  have e0 : Try.prog.cellsOf 23 = 1 := by kernel_rfl
  simp only [e0] at t0 t1
  obtain ⟨k0, h0, _, w0⟩ := DataW.trod_int Try.underlying23 (by simpa [Value.cells] using t0)
  obtain ⟨k1, h1, _, w1⟩ := DataW.trod_int Try.underlying23 (by simpa [Value.cells] using t1)
  simp at h0 h1
  subst h0 h1
  obtain ⟨a, rfl, ha⟩ := u64_nat w0
  obtain ⟨b, rfl, hb⟩ := u64_nat w1
  exact ⟨a, b, rfl, ha, hb⟩
end Go.Proofs.Ytbecambkjmheiaa
