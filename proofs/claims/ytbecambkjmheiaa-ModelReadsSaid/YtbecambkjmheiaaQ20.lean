/- Texts of this seat, one behind the other: NOps, NAlive, NReads. -/
import Derived.Test.YtbecambkjmheiaaQ15
import Derived.Test.YtbecambkjmheiaaQ16
import Derived.Test.YtbecambkjmheiaaQ17
import Derived.Test.YtbecambkjmheiaaQ18
import Derived.Test.YtbecambkjmheiaaQ19
/- The contracts of Write, Reserve, Discard and Zero. -/
namespace Go.Proofs.Ytbecambkjmheiaa
open Go.RowKit

/-- Cells are not too many. -/
def cFit (q : Int) (L N : List CL) : Prop := N.length ≤ L.length ∨ ((N.length : Int) ≤ q ∧ N.length ≤ 64)
instance (q : Int) (L N : List CL) : Decidable (cFit q L N) := by unfold cFit; infer_instance
/-- What is told, and the cells then, where there is a quota. -/
def cwE (q : Int) (L : List CL) (f len : Nat) (F : CL → CL) : Int := if cWhy L f len ≠ 0 then cWhy L f len else if cFit q L (cNow L f len F) then 0 else 6
def cwN (q : Int) (L : List CL) (f len : Nat) (F : CL → CL) : List CL := if cwE q L f len F = 0 then cNow L f len F else []
theorem cNow_no {L : List CL} {f len : Nat} {F : CL → CL} (h : cWhy L f len ≠ 0) : cNow L f len F = [] := by rw [cNow, if_neg h]
theorem cNow_yes {L : List CL} {f len : Nat} {F : CL → CL} (h : cWhy L f len = 0) : cNow L f len F = cdo L F (f / 32) (mK f len) := by rw [cNow, if_pos h]
theorem cNow_len {L : List CL} {f len : Nat} {F : CL → CL} (hF : ∀ c, (F c).n = c.n) : (cNow L f len F).length ≤ 72 := by
  by_cases h : cWhy L f len = 0
  · rw [cNow_yes h]
    obtain ⟨h1, h2, h3, h4⟩ := cWhy_ok.1 h
    have := cdo_len1 (a := f / 32) (k := mK f len) (cup_cs h1.2.2) hF
    have := mK_8 (f := f) h3
    have := h1.1
    omega
  · rw [cNow_no h]; simp
theorem nchW_any (bd bf : Nat) (A : Option Addr) (n c f len : Nat) (L : List CL) (F : CL → CL) (w : World) (hA : CR w A L) (hl : L.length = n) (h0 : A = none → c = 0) (hn : n ≤ 65536) (hf : f < 18446744073709551616) (hm : len < 18446744073709551616) (hB : cWhy L f len = 0 → ByF w 18 #[.pointer (some ⟨bd, 0, none⟩), .pointer (some ⟨bf, 0, none⟩)] F f len) (hF : ∀ c, (F c).n = c.n) :
    Calls Try.prog 25 #[.slice A n c, .agg #[vu f, vu len], .func (.func 18) #[] #[.pointer (some ⟨bd, 0, none⟩), .pointer (some ⟨bf, 0, none⟩)]] w fun e w' => ∃ B d, e = .returned (.tuple #[.slice B (cNow L f len F).length d, .int .i64 (cWhy L f len)]) ∧ (cNow L f len F).length ≤ d ∧ (B = none → d = 0) ∧ CR w' B (cNow L f len F) ∧ Below w.heap.size w w' := by
  by_cases h : cWhy L f len = 0
  · obtain ⟨h1, h2, h3, h4⟩ := cWhy_ok.1 h
    refine (nchW_yes bd bf A n c f len L F w hA hl h0 h1 h2 h3 h4 (hB h) hF).mono ?_
    rintro e w' ⟨B, d, rfl, k1, k2, k3⟩
    rw [cNow_yes h, h]
    exact ⟨B, d, rfl, k1.1, k1.2, k2, k3⟩
  · refine (nchW_no bd bf A n c f len L w hA hl hn hf hm h).mono ?_
    rintro e w' ⟨rfl, k3⟩
    rw [cNow_no h]
    exact ⟨none, 0, rfl, Nat.le_refl _, fun _ => rfl, CR.nil _ _, k3⟩
theorem nchD_any (A : Option Addr) (n c f len : Nat) (L : List CL) (F : CL → CL) (w : World) (hA : CR w A L) (hl : L.length = n) (h0 : A = none → c = 0) (hn : n ≤ 65536) (hf : f < 18446744073709551616) (hm : len < 18446744073709551616) (hB : cWhy L f len = 0 → ByF w 26 #[] F f len) (hF : ∀ c, (F c).n = c.n) :
    Calls Try.prog 25 #[.slice A n c, .agg #[vu f, vu len], .func (.func 26) #[] #[]] w fun e w' => ∃ B d, e = .returned (.tuple #[.slice B (cNow L f len F).length d, .int .i64 (cWhy L f len)]) ∧ (cNow L f len F).length ≤ d ∧ (B = none → d = 0) ∧ CR w' B (cNow L f len F) ∧ Below w.heap.size w w' := by
  by_cases h : cWhy L f len = 0
  · obtain ⟨h1, h2, h3, h4⟩ := cWhy_ok.1 h
    refine (nchD_yes A n c f len L F w hA hl h0 h1 h2 h3 h4 (hB h) hF).mono ?_
    rintro e w' ⟨B, d, rfl, k1, k2, k3⟩
    rw [cNow_yes h, h]
    exact ⟨B, d, rfl, k1.1, k1.2, k2, k3⟩
  · refine (nchD_no A n c f len L w hA hl hn hf hm h).mono ?_
    rintro e w' ⟨rfl, k3⟩
    rw [cNow_no h]
    exact ⟨none, 0, rfl, Nat.le_refl _, fun _ => rfl, CR.nil _ _, k3⟩
theorem nchZ_any (A : Option Addr) (n c f len : Nat) (L : List CL) (F : CL → CL) (w : World) (hA : CR w A L) (hl : L.length = n) (h0 : A = none → c = 0) (hn : n ≤ 65536) (hf : f < 18446744073709551616) (hm : len < 18446744073709551616) (hB : cWhy L f len = 0 → ByF w 29 #[] F f len) (hF : ∀ c, (F c).n = c.n) :
    Calls Try.prog 25 #[.slice A n c, .agg #[vu f, vu len], .func (.func 29) #[] #[]] w fun e w' => ∃ B d, e = .returned (.tuple #[.slice B (cNow L f len F).length d, .int .i64 (cWhy L f len)]) ∧ (cNow L f len F).length ≤ d ∧ (B = none → d = 0) ∧ CR w' B (cNow L f len F) ∧ Below w.heap.size w w' := by
  by_cases h : cWhy L f len = 0
  · obtain ⟨h1, h2, h3, h4⟩ := cWhy_ok.1 h
    refine (nchZ_yes A n c f len L F w hA hl h0 h1 h2 h3 h4 (hB h) hF).mono ?_
    rintro e w' ⟨B, d, rfl, k1, k2, k3⟩
    rw [cNow_yes h, h]
    exact ⟨B, d, rfl, k1.1, k1.2, k2, k3⟩
  · refine (nchZ_no A n c f len L w hA hl hn hf hm h).mono ?_
    rintro e w' ⟨rfl, k3⟩
    rw [cNow_no h]
    exact ⟨none, 0, rfl, Nat.le_refl _, fun _ => rfl, CR.nil _ _, k3⟩
theorem nchR_any (A : Option Addr) (n c f len : Nat) (L : List CL) (F : CL → CL) (w : World) (hA : CR w A L) (hl : L.length = n) (h0 : A = none → c = 0) (hn : n ≤ 65536) (hf : f < 18446744073709551616) (hm : len < 18446744073709551616) (hB : cWhy L f len = 0 → ByF w 20 #[] F f len) (hF : ∀ c, (F c).n = c.n) :
    Calls Try.prog 25 #[.slice A n c, .agg #[vu f, vu len], .func (.func 20) #[] #[]] w fun e w' => ∃ B d, e = .returned (.tuple #[.slice B (cNow L f len F).length d, .int .i64 (cWhy L f len)]) ∧ (cNow L f len F).length ≤ d ∧ (B = none → d = 0) ∧ CR w' B (cNow L f len F) ∧ Below w.heap.size w w' := by
  by_cases h : cWhy L f len = 0
  · obtain ⟨h1, h2, h3, h4⟩ := cWhy_ok.1 h
    refine (nchR_yes A n c f len L F w hA hl h0 h1 h2 h3 h4 (hB h) hF).mono ?_
    rintro e w' ⟨B, d, rfl, k1, k2, k3⟩
    rw [cNow_yes h, h]
    exact ⟨B, d, rfl, k1.1, k1.2, k2, k3⟩
  · refine (nchR_no A n c f len L w hA hl hn hf hm h).mono ?_
    rintro e w' ⟨rfl, k3⟩
    rw [cNow_no h]
    exact ⟨none, 0, rfl, Nat.le_refl _, fun _ => rfl, CR.nil _ _, k3⟩

set_option maxRecDepth 100000 in
set_option maxHeartbeats 4000000 in
theorem nwiW_any (bd bf : Nat) (A : Option Addr) (n c f len : Nat) (q : Int) (L : List CL) (F : CL → CL) (w : World) (hA : CR w A L) (hl : L.length = n) (h0 : A = none → c = 0) (hn : n ≤ 65536) (hf : f < 18446744073709551616) (hm : len < 18446744073709551616) (hB : cWhy L f len = 0 → ByF w 18 #[.pointer (some ⟨bd, 0, none⟩), .pointer (some ⟨bf, 0, none⟩)] F f len) (hF : ∀ c, (F c).n = c.n) :
    Calls Try.prog 17 #[.int .i64 q, .slice A n c, .agg #[vu f, vu len], .func (.func 18) #[] #[.pointer (some ⟨bd, 0, none⟩), .pointer (some ⟨bf, 0, none⟩)]] w fun e w' => ∃ B d, e = .returned (.tuple #[.slice B (cwN q L f len F).length d, .int .i64 (cwE q L f len F)]) ∧ (cwN q L f len F).length ≤ d ∧ (B = none → d = 0) ∧ CR w' B (cwN q L f len F) ∧ Below w.heap.size w w' := by
  have HC : Hid (∀ W, Below w.heap.size w W → Calls Try.prog 25 #[.slice A n c, .agg #[vu f, vu len], .func (.func 18) #[] #[.pointer (some ⟨bd, 0, none⟩), .pointer (some ⟨bf, 0, none⟩)]] W fun e w' => ∃ B d, e = .returned (.tuple #[.slice B (cNow L f len F).length d, .int .i64 (cWhy L f len)]) ∧ (cNow L f len F).length ≤ d ∧ (B = none → d = 0) ∧ CR w' B (cNow L f len F) ∧ Below W.heap.size W w') := Lib.hid fun W hb =>
    nchW_any bd bf A n c f len L F W (hA.later hb) hl h0 hn hf hm (fun h V hV => hB h V (hb.trans (hV.mono hb.size))) hF
  have HLN := Lib.hid (cNow_len (L := L) (f := f) (len := len) hF)
  have HE : Hid (cWhy L f len ≠ 0 → cwE q L f len F = cWhy L f len ∧ cwN q L f len F = []) := Lib.hid fun h => by
    have e : cwE q L f len F = cWhy L f len := by rw [cwE, if_pos h]
    exact ⟨e, by rw [cwN, e, if_neg h]⟩
  have HY : Hid (cWhy L f len = 0 → cFit q L (cNow L f len F) → cwE q L f len F = 0 ∧ cwN q L f len F = cNow L f len F) := Lib.hid fun h h2 => by
    have e : cwE q L f len F = 0 := by rw [cwE, if_neg (fun h' => h' h), if_pos h2]
    exact ⟨e, by rw [cwN, if_pos e]⟩
  have HX : Hid (cWhy L f len = 0 → ¬ cFit q L (cNow L f len F) → cwE q L f len F = 6 ∧ cwN q L f len F = []) := Lib.hid fun h h2 => by
    have e : cwE q L f len F = 6 := by rw [cwE, if_neg (fun h' => h' h), if_neg h2]
    exact ⟨e, by rw [cwN, e, if_neg (by omega)]⟩
  have HFit : Hid (cFit q L (cNow L f len F) ↔ ((cNow L f len F).length ≤ n ∨ (((cNow L f len F).length : Int) ≤ q ∧ (cNow L f len F).length ≤ 64))) := Lib.hid (by rw [← hl]; exact Iff.rfl)
  generalize cNow L f len F = N at *
  generalize hM : N.length = M at *
  have HM := Lib.hid hM
  clear hA hl h0 hf hm hB hF hM
  by_cases h : cWhy L f len = 0
  · rw [h] at HC
    by_cases hle : M ≤ n
    · obtain ⟨e1, e2⟩ := HY.out h (HFit.out.2 (.inl hle))
      rw [e1, e2]
      clear HE HY HX e1 e2 h
      have hd : ¬ ((n : Int) < (M : Int)) := by omega
      have hd2 : ¬ (n < M) := by omega
      go_enter Try.func17, Try.ntmps17
      go_wp2_with fail
      refine (HC.out _ (ba (Below.refl _ _) _)).mono ?_
      rintro e w1 ⟨B, d, rfl, k1, k2, k3, k4⟩
      have HK : Hid (M ≤ d ∧ (B = none → d = 0) ∧ CR w1 B N ∧ Below w.heap.size w w1) := Lib.hid ⟨k1, k2, k3, bt (ba (Below.refl w.heap.size w) _) k4⟩
      clear k1 k2 k3 k4
      go_wp2
      go_ret2
      rw [HM.out]
      exact ⟨B, d, rfl, HK.out⟩
    · by_cases hq : (M : Int) ≤ q ∧ M ≤ 64
      · obtain ⟨e1, e2⟩ := HY.out h (HFit.out.2 (.inr hq))
        rw [e1, e2]
        clear HE HY HX e1 e2 h
        have hd : ((n : Int) < (M : Int)) := by omega
        have hd2 : (n < M) := by omega
        have hd3 : ¬ (min q 64 < (M : Int)) := by omega
        clear hq hle
        go_enter Try.func17, Try.ntmps17
        go_wp2_with fail
        refine (HC.out _ (ba (Below.refl _ _) _)).mono ?_
        rintro e w1 ⟨B, d, rfl, k1, k2, k3, k4⟩
        have HK : Hid (M ≤ d ∧ (B = none → d = 0) ∧ CR w1 B N ∧ Below w.heap.size w w1) := Lib.hid ⟨k1, k2, k3, bt (ba (Below.refl w.heap.size w) _) k4⟩
        clear k1 k2 k3 k4
        rcases Int.le_total q 64 with hq4 | hq4
        · have hm9 : min q 64 = q := Int.min_eq_left hq4
          rw [hm9] at hd3
          go_wp2
          go_ret2
          rw [HM.out]
          exact ⟨B, d, rfl, HK.out⟩
        · have hm9 : min q 64 = 64 := Int.min_eq_right hq4
          rw [hm9] at hd3
          have hd5 : ¬ (64 < M) := by omega
          go_wp2
          go_ret2
          rw [HM.out]
          exact ⟨B, d, rfl, HK.out⟩
      · obtain ⟨e1, e2⟩ := HX.out h (fun hh => by rcases HFit.out.1 hh with h2 | h2; exact hle h2; exact hq h2)
        rw [e1, e2]
        clear HE HY HX e1 e2 h
        have hd : ((n : Int) < (M : Int)) := by omega
        have hd2 : (n < M) := by omega
        have hd3 : (min q 64 < (M : Int)) := by omega
        clear hq hle
        go_enter Try.func17, Try.ntmps17
        go_wp2_with fail
        refine (HC.out _ (ba (Below.refl _ _) _)).mono ?_
        rintro e w1 ⟨B, d, rfl, k1, k2, k3, k4⟩
        have HK : Hid (Below w.heap.size w w1) := Lib.hid (bt (ba (Below.refl w.heap.size w) _) k4)
        clear k1 k2 k3 k4
        rcases Int.le_total q 64 with hq4 | hq4
        · have hm9 : min q 64 = q := Int.min_eq_left hq4
          rw [hm9] at hd3
          go_wp2
          go_ret2
          exact ⟨none, 0, rfl, Nat.le_refl _, fun _ => rfl, CR.nil _ _, HK.out⟩
        · have hm9 : min q 64 = 64 := Int.min_eq_right hq4
          rw [hm9] at hd3
          have hd5 : (64 < M) := by omega
          go_wp2
          go_ret2
          exact ⟨none, 0, rfl, Nat.le_refl _, fun _ => rfl, CR.nil _ _, HK.out⟩
  · obtain ⟨e1, e2⟩ := HE.out h
    rw [e1, e2]
    clear HE HY HX e1 e2
    generalize cWhy L f len = E at *
    have hE : decide (E = 0) = false := by simpa using h
    go_enter Try.func17, Try.ntmps17
    go_wp2_with fail
    refine (HC.out _ (ba (Below.refl _ _) _)).mono ?_
    rintro e w1 ⟨B, d, rfl, k1, k2, k3, k4⟩
    have HK : Hid (Below w.heap.size w w1) := Lib.hid (bt (ba (Below.refl w.heap.size w) _) k4)
    clear k1 k2 k3 k4
    go_wp2
    go_ret2
    exact ⟨none, 0, rfl, Nat.le_refl _, fun _ => rfl, CR.nil _ _, HK.out⟩

set_option maxRecDepth 100000 in
set_option maxHeartbeats 4000000 in
theorem nwiR_any (A : Option Addr) (n c f len : Nat) (q : Int) (L : List CL) (F : CL → CL) (w : World) (hA : CR w A L) (hl : L.length = n) (h0 : A = none → c = 0) (hn : n ≤ 65536) (hf : f < 18446744073709551616) (hm : len < 18446744073709551616) (hB : cWhy L f len = 0 → ByF w 20 #[] F f len) (hF : ∀ c, (F c).n = c.n) :
    Calls Try.prog 17 #[.int .i64 q, .slice A n c, .agg #[vu f, vu len], .func (.func 20) #[] #[]] w fun e w' => ∃ B d, e = .returned (.tuple #[.slice B (cwN q L f len F).length d, .int .i64 (cwE q L f len F)]) ∧ (cwN q L f len F).length ≤ d ∧ (B = none → d = 0) ∧ CR w' B (cwN q L f len F) ∧ Below w.heap.size w w' := by
  have HC : Hid (∀ W, Below w.heap.size w W → Calls Try.prog 25 #[.slice A n c, .agg #[vu f, vu len], .func (.func 20) #[] #[]] W fun e w' => ∃ B d, e = .returned (.tuple #[.slice B (cNow L f len F).length d, .int .i64 (cWhy L f len)]) ∧ (cNow L f len F).length ≤ d ∧ (B = none → d = 0) ∧ CR w' B (cNow L f len F) ∧ Below W.heap.size W w') := Lib.hid fun W hb =>
    nchR_any A n c f len L F W (hA.later hb) hl h0 hn hf hm (fun h V hV => hB h V (hb.trans (hV.mono hb.size))) hF
  have HLN := Lib.hid (cNow_len (L := L) (f := f) (len := len) hF)
  have HE : Hid (cWhy L f len ≠ 0 → cwE q L f len F = cWhy L f len ∧ cwN q L f len F = []) := Lib.hid fun h => by
    have e : cwE q L f len F = cWhy L f len := by rw [cwE, if_pos h]
    exact ⟨e, by rw [cwN, e, if_neg h]⟩
  have HY : Hid (cWhy L f len = 0 → cFit q L (cNow L f len F) → cwE q L f len F = 0 ∧ cwN q L f len F = cNow L f len F) := Lib.hid fun h h2 => by
    have e : cwE q L f len F = 0 := by rw [cwE, if_neg (fun h' => h' h), if_pos h2]
    exact ⟨e, by rw [cwN, if_pos e]⟩
  have HX : Hid (cWhy L f len = 0 → ¬ cFit q L (cNow L f len F) → cwE q L f len F = 6 ∧ cwN q L f len F = []) := Lib.hid fun h h2 => by
    have e : cwE q L f len F = 6 := by rw [cwE, if_neg (fun h' => h' h), if_neg h2]
    exact ⟨e, by rw [cwN, e, if_neg (by omega)]⟩
  have HFit : Hid (cFit q L (cNow L f len F) ↔ ((cNow L f len F).length ≤ n ∨ (((cNow L f len F).length : Int) ≤ q ∧ (cNow L f len F).length ≤ 64))) := Lib.hid (by rw [← hl]; exact Iff.rfl)
  generalize cNow L f len F = N at *
  generalize hM : N.length = M at *
  have HM := Lib.hid hM
  clear hA hl h0 hf hm hB hF hM
  by_cases h : cWhy L f len = 0
  · rw [h] at HC
    by_cases hle : M ≤ n
    · obtain ⟨e1, e2⟩ := HY.out h (HFit.out.2 (.inl hle))
      rw [e1, e2]
      clear HE HY HX e1 e2 h
      have hd : ¬ ((n : Int) < (M : Int)) := by omega
      have hd2 : ¬ (n < M) := by omega
      go_enter Try.func17, Try.ntmps17
      go_wp2_with fail
      refine (HC.out _ (ba (Below.refl _ _) _)).mono ?_
      rintro e w1 ⟨B, d, rfl, k1, k2, k3, k4⟩
      have HK : Hid (M ≤ d ∧ (B = none → d = 0) ∧ CR w1 B N ∧ Below w.heap.size w w1) := Lib.hid ⟨k1, k2, k3, bt (ba (Below.refl w.heap.size w) _) k4⟩
      clear k1 k2 k3 k4
      go_wp2
      go_ret2
      rw [HM.out]
      exact ⟨B, d, rfl, HK.out⟩
    · by_cases hq : (M : Int) ≤ q ∧ M ≤ 64
      · obtain ⟨e1, e2⟩ := HY.out h (HFit.out.2 (.inr hq))
        rw [e1, e2]
        clear HE HY HX e1 e2 h
        have hd : ((n : Int) < (M : Int)) := by omega
        have hd2 : (n < M) := by omega
        have hd3 : ¬ (min q 64 < (M : Int)) := by omega
        clear hq hle
        go_enter Try.func17, Try.ntmps17
        go_wp2_with fail
        refine (HC.out _ (ba (Below.refl _ _) _)).mono ?_
        rintro e w1 ⟨B, d, rfl, k1, k2, k3, k4⟩
        have HK : Hid (M ≤ d ∧ (B = none → d = 0) ∧ CR w1 B N ∧ Below w.heap.size w w1) := Lib.hid ⟨k1, k2, k3, bt (ba (Below.refl w.heap.size w) _) k4⟩
        clear k1 k2 k3 k4
        rcases Int.le_total q 64 with hq4 | hq4
        · have hm9 : min q 64 = q := Int.min_eq_left hq4
          rw [hm9] at hd3
          go_wp2
          go_ret2
          rw [HM.out]
          exact ⟨B, d, rfl, HK.out⟩
        · have hm9 : min q 64 = 64 := Int.min_eq_right hq4
          rw [hm9] at hd3
          have hd5 : ¬ (64 < M) := by omega
          go_wp2
          go_ret2
          rw [HM.out]
          exact ⟨B, d, rfl, HK.out⟩
      · obtain ⟨e1, e2⟩ := HX.out h (fun hh => by rcases HFit.out.1 hh with h2 | h2; exact hle h2; exact hq h2)
        rw [e1, e2]
        clear HE HY HX e1 e2 h
        have hd : ((n : Int) < (M : Int)) := by omega
        have hd2 : (n < M) := by omega
        have hd3 : (min q 64 < (M : Int)) := by omega
        clear hq hle
        go_enter Try.func17, Try.ntmps17
        go_wp2_with fail
        refine (HC.out _ (ba (Below.refl _ _) _)).mono ?_
        rintro e w1 ⟨B, d, rfl, k1, k2, k3, k4⟩
        have HK : Hid (Below w.heap.size w w1) := Lib.hid (bt (ba (Below.refl w.heap.size w) _) k4)
        clear k1 k2 k3 k4
        rcases Int.le_total q 64 with hq4 | hq4
        · have hm9 : min q 64 = q := Int.min_eq_left hq4
          rw [hm9] at hd3
          go_wp2
          go_ret2
          exact ⟨none, 0, rfl, Nat.le_refl _, fun _ => rfl, CR.nil _ _, HK.out⟩
        · have hm9 : min q 64 = 64 := Int.min_eq_right hq4
          rw [hm9] at hd3
          have hd5 : (64 < M) := by omega
          go_wp2
          go_ret2
          exact ⟨none, 0, rfl, Nat.le_refl _, fun _ => rfl, CR.nil _ _, HK.out⟩
  · obtain ⟨e1, e2⟩ := HE.out h
    rw [e1, e2]
    clear HE HY HX e1 e2
    generalize cWhy L f len = E at *
    have hE : decide (E = 0) = false := by simpa using h
    go_enter Try.func17, Try.ntmps17
    go_wp2_with fail
    refine (HC.out _ (ba (Below.refl _ _) _)).mono ?_
    rintro e w1 ⟨B, d, rfl, k1, k2, k3, k4⟩
    have HK : Hid (Below w.heap.size w w1) := Lib.hid (bt (ba (Below.refl w.heap.size w) _) k4)
    clear k1 k2 k3 k4
    go_wp2
    go_ret2
    exact ⟨none, 0, rfl, Nat.le_refl _, fun _ => rfl, CR.nil _ _, HK.out⟩

/-- What each of them makes of a block. -/
abbrev FW (data : List UInt8) (f : Nat) : CL → CL := cF 1 (fun j => data.getD j 0) f data.length
abbrev FD (f len : Nat) : CL → CL := cF 2 (fun _ => 0) f len
abbrev FZ (f len : Nat) : CL → CL := cF 3 (fun _ => 0) f len
abbrev FR (f len : Nat) : CL → CL := cF 4 (fun _ => 0) f len

set_option maxRecDepth 100000 in
set_option maxHeartbeats 2000000 in
theorem ndiscard_any (A : Option Addr) (n c f len : Nat) (L : List CL) (w : World) (hA : CR w A L) (hl : L.length = n) (h0 : A = none → c = 0) (hn : n ≤ 65536) (hf : f < 18446744073709551616) (hm : len < 18446744073709551616) :
    Calls Try.prog 11 #[.slice A n c, .agg #[vu f, vu len]] w fun e w' => ∃ B d, e = .returned (.tuple #[.slice B (cNow L f len (FD f len)).length d, .int .i64 (cWhy L f len)]) ∧ (cNow L f len (FD f len)).length ≤ d ∧ (B = none → d = 0) ∧ CR w' B (cNow L f len (FD f len)) ∧ Below w.heap.size w w' := by
  have HC := Lib.hid (fun W (hb : Below w.heap.size w W) => nchD_any A n c f len L (FD f len) W (hA.later hb) hl h0 hn hf hm (fun h => by obtain ⟨_, h2, _, h4⟩ := cWhy_ok.1 h; exact nby_discard _ f len W h2 h4) (cF_n _ _ _ _))
  clear hA hl h0
  generalize cNow L f len (FD f len) = N at *
  generalize cWhy L f len = E at *
  go_enter Try.func11, Try.ntmps11
  go_wp2_with fail
  refine (HC.out _ (ba (Below.refl _ _) _)).mono ?_
  rintro e w1 ⟨B, d, rfl, k1, k2, k3, k4⟩
  have HK : Hid (N.length ≤ d ∧ (B = none → d = 0) ∧ CR w1 B N ∧ Below w.heap.size w w1) := Lib.hid ⟨k1, k2, k3, bt (ba (Below.refl w.heap.size w) _) k4⟩
  clear k1 k2 k3 k4
  go_wp2
  go_ret2
  exact ⟨B, d, rfl, HK.out⟩

set_option maxRecDepth 100000 in
set_option maxHeartbeats 2000000 in
theorem nzero_any (A : Option Addr) (n c f len : Nat) (L : List CL) (w : World) (hA : CR w A L) (hl : L.length = n) (h0 : A = none → c = 0) (hn : n ≤ 65536) (hf : f < 18446744073709551616) (hm : len < 18446744073709551616) :
    Calls Try.prog 12 #[.slice A n c, .agg #[vu f, vu len]] w fun e w' => ∃ B d, e = .returned (.tuple #[.slice B (cNow L f len (FZ f len)).length d, .int .i64 (cWhy L f len)]) ∧ (cNow L f len (FZ f len)).length ≤ d ∧ (B = none → d = 0) ∧ CR w' B (cNow L f len (FZ f len)) ∧ Below w.heap.size w w' := by
  have HC := Lib.hid (fun W (hb : Below w.heap.size w W) => nchZ_any A n c f len L (FZ f len) W (hA.later hb) hl h0 hn hf hm (fun h => by obtain ⟨_, h2, _, h4⟩ := cWhy_ok.1 h; exact nby_zero _ f len W h2 h4) (cF_n _ _ _ _))
  clear hA hl h0
  generalize cNow L f len (FZ f len) = N at *
  generalize cWhy L f len = E at *
  go_enter Try.func12, Try.ntmps12
  go_wp2_with fail
  refine (HC.out _ (ba (Below.refl _ _) _)).mono ?_
  rintro e w1 ⟨B, d, rfl, k1, k2, k3, k4⟩
  have HK : Hid (N.length ≤ d ∧ (B = none → d = 0) ∧ CR w1 B N ∧ Below w.heap.size w w1) := Lib.hid ⟨k1, k2, k3, bt (ba (Below.refl w.heap.size w) _) k4⟩
  clear k1 k2 k3 k4
  go_wp2
  go_ret2
  exact ⟨B, d, rfl, HK.out⟩

set_option maxRecDepth 100000 in
set_option maxHeartbeats 2000000 in
theorem nreserve_any (A : Option Addr) (n c f len : Nat) (q : Int) (L : List CL) (w : World) (hA : CR w A L) (hl : L.length = n) (h0 : A = none → c = 0) (hn : n ≤ 65536) (hf : f < 18446744073709551616) (hm : len < 18446744073709551616) :
    Calls Try.prog 8 #[.slice A n c, .int .i64 q, .agg #[vu f, vu len]] w fun e w' => ∃ B d, e = .returned (.tuple #[.slice B (cwN q L f len (FR f len)).length d, .int .i64 (cwE q L f len (FR f len))]) ∧ (cwN q L f len (FR f len)).length ≤ d ∧ (B = none → d = 0) ∧ CR w' B (cwN q L f len (FR f len)) ∧ Below w.heap.size w w' := by
  have HC := Lib.hid (fun W (hb : Below w.heap.size w W) => nwiR_any A n c f len q L (FR f len) W (hA.later hb) hl h0 hn hf hm (fun _ => nby_reserve _ f len W) (cF_n _ _ _ _))
  clear hA hl h0
  generalize cwN q L f len (FR f len) = N at *
  generalize cwE q L f len (FR f len) = E at *
  go_enter Try.func8, Try.ntmps8
  go_wp2_with fail
  refine (HC.out _ (ba (Below.refl _ _) _)).mono ?_
  rintro e w1 ⟨B, d, rfl, k1, k2, k3, k4⟩
  have HK : Hid (N.length ≤ d ∧ (B = none → d = 0) ∧ CR w1 B N ∧ Below w.heap.size w w1) := Lib.hid ⟨k1, k2, k3, bt (ba (Below.refl w.heap.size w) _) k4⟩
  clear k1 k2 k3 k4
  go_wp2
  go_ret2
  exact ⟨B, d, rfl, HK.out⟩

set_option maxRecDepth 100000 in
set_option maxHeartbeats 2000000 in
theorem nwrite_any (A : Option Addr) (n c f : Nat) (q : Int) (L : List CL) (data : List UInt8) (w : World) (hA : CR w A L) (hl : L.length = n) (h0 : A = none → c = 0) (hn : n ≤ 65536) (hf : f < 18446744073709551616) (hm : data.length ≤ 65536) :
    Calls Try.prog 7 #[.slice A n c, .int .i64 q, vu f, sv data] w fun e w' => ∃ B d, e = .returned (.tuple #[.slice B (cwN q L f data.length (FW data f)).length d, .int .i64 (cwE q L f data.length (FW data f))]) ∧ (cwN q L f data.length (FW data f)).length ≤ d ∧ (B = none → d = 0) ∧ CR w' B (cwN q L f data.length (FW data f)) ∧ Below w.heap.size w w' := by
  have HC : Hid (∀ W (_ : Below w.heap.size w W), Blk W w.heap.size 23 #[vu f] → Blk W (w.heap.size + 1) 9 #[sv data] → Calls Try.prog 17 #[.int .i64 q, .slice A n c, .agg #[vu f, vu data.length], .func (.func 18) #[] #[.pointer (some ⟨w.heap.size + 1, 0, none⟩), .pointer (some ⟨w.heap.size, 0, none⟩)]] W fun e w' => ∃ B d, e = .returned (.tuple #[.slice B (cwN q L f data.length (FW data f)).length d, .int .i64 (cwE q L f data.length (FW data f))]) ∧ (cwN q L f data.length (FW data f)).length ≤ d ∧ (B = none → d = 0) ∧ CR w' B (cwN q L f data.length (FW data f)) ∧ Below W.heap.size W w') := Lib.hid fun W hb b0 b1 =>
    nwiW_any (w.heap.size + 1) w.heap.size A n c f data.length q L (FW data f) W (hA.later hb) hl h0 hn hf (by omega) (fun h => by obtain ⟨_, h2, _, h4⟩ := cWhy_ok.1 h; exact nby_write w.heap.size (w.heap.size + 1) f data.length data W (b0.cell 0) (b1.cell 0) rfl h2 h4) (cF_n _ _ _ _)
  have hsz := size_mk data
  have hw : IntKind.u64.wrap ((data.length : Nat) : Int) = ((data.length : Nat) : Int) := IntWalk.u64_in _ ⟨by omega, by omega⟩
  clear hA hl h0
  generalize cwN q L f data.length (FW data f) = N at *
  generalize cwE q L f data.length (FW data f) = E at *
  have HB0 : Hid (Blk (((w.alloc (.cells #[vu f] 23)).alloc (.cells #[sv data] 9)).alloc (.cells #[vu f, vu data.length] 25)) w.heap.size 23 #[vu f] ∧ Blk (((w.alloc (.cells #[vu f] 23)).alloc (.cells #[sv data] 9)).alloc (.cells #[vu f, vu data.length] 25)) (w.heap.size + 1) 9 #[sv data]) := Lib.hid
    ⟨((Blk.new w _ _).alloc _).alloc _, (Blk.newAt (by simp) _ _).alloc _⟩
  go_enter Try.func7, Try.ntmps7
  go_wp2_with fail
  refine (HC.out _ (ba (ba (ba (Below.refl _ _) _) _) _) HB0.out.1 HB0.out.2).mono ?_
  rintro e w1 ⟨B, d, rfl, k1, k2, k3, k4⟩
  have HK : Hid (N.length ≤ d ∧ (B = none → d = 0) ∧ CR w1 B N ∧ Below w.heap.size w w1) := Lib.hid ⟨k1, k2, k3, bt (ba (ba (ba (Below.refl w.heap.size w) _) _) _) k4⟩
  clear k1 k2 k3 k4
  go_wp2
  go_ret2
  exact ⟨B, d, rfl, HK.out⟩
end Go.Proofs.Ytbecambkjmheiaa
/- The law's own alive, and same. -/
namespace Go.Proofs.Ytbecambkjmheiaa
open Go.RowKit

theorem nal_one : cwE 4 [] 31 ([97, 98] : List UInt8).length (FW [97, 98] 31) = 0 ∧ (cwN 4 [] 31 ([97, 98] : List UInt8).length (FW [97, 98] 31)).length = 2 := by decide +kernel
theorem nal_two : cText (cwN 4 [] 31 ([97, 98] : List UInt8).length (FW [97, 98] 31)) 30 4 = [0, 97, 98, 0] ∧ cWhy (cwN 4 [] 31 ([97, 98] : List UInt8).length (FW [97, 98] 31)) 30 4 = 0 := by decide +kernel

set_option maxRecDepth 100000 in
set_option maxHeartbeats 2000000 in
theorem nalive_any (w : World) : Calls Try.prog 9 #[] w fun e w' => e = .returned (.bool true) ∧ Below w.heap.size w w' := by
  have HW : Hid (∀ W, Calls Try.prog 7 #[.slice none 0 0, .int .i64 4, .int .u64 31, .string ⟨#[97, 98]⟩] W fun e w' => ∃ B d, e = .returned (.tuple #[.slice B 2 d, .int .i64 0]) ∧ CR w' B (cwN 4 [] 31 ([97, 98] : List UInt8).length (FW [97, 98] 31)) ∧ Below W.heap.size W w') := Lib.hid fun W => by
    refine (nwrite_any none 0 0 31 4 [] [97, 98] W (CR.nil _ _) rfl (fun _ => rfl) (by omega) (by omega) (by simp)).mono ?_
    rintro e w' ⟨B, d, rfl, _, _, k3, k4⟩
    rw [nal_one.1, nal_one.2]
    exact ⟨B, d, rfl, k3, k4⟩
  have HR : Hid (∀ B d W, CR W B (cwN 4 [] 31 ([97, 98] : List UInt8).length (FW [97, 98] 31)) → Calls Try.prog 13 #[.slice B 2 d, .agg #[.int .u64 30, .int .u64 4]] W fun e w' => e = .returned (.tuple #[.string ⟨#[0, 97, 98, 0]⟩, .int .i64 0]) ∧ Below W.heap.size W w') := Lib.hid fun B d W h => by
    have := nread_any B 2 d 30 4 _ W h nal_one.2 (by omega) (by omega) (by omega)
    rw [nal_two.1, nal_two.2] at this
    exact this
  generalize cwN 4 [] 31 ([97, 98] : List UInt8).length (FW [97, 98] 31) = N at *
  go_enter Try.func9, Try.ntmps9
  go_wp2_with fail
  refine (HW.out _).mono ?_
  rintro e w1 ⟨B, d, rfl, k3, k4⟩
  have HK := Lib.hid k3
  have HB := Lib.hid k4
  clear k3 k4
  go_wp2_with fail
  refine (HR.out _ _ _ HK.out).mono ?_
  rintro e w2 ⟨rfl, hb2⟩
  have HB2 := Lib.hid (bt HB.out hb2)
  clear hb2
  go_wp2
  go_ret
  exact ⟨rfl, HB2.out⟩

set_option maxRecDepth 100000 in
set_option maxHeartbeats 2000000 in
theorem nsame_yes (A A2 : Option Addr) (n c n2 c2 f len m : Nat) (N L : List CL) (T : List UInt8) (w : World) (hA : CR w A N) (hl : N.length = n) (hn : n ≤ 65536) (hA2 : CR w A2 L) (hl2 : L.length = n2) (hN : CRt N) (hL : CRt L) (h1 : 1 ≤ len) (h2 : len ≤ 224) (h3 : f + len ≤ 18446744073709551616) (hm : m < 18446744073709551616)
    (hT : cread N f len = T) (hB : ¬ (f ≤ m ∧ m < f + len) → cByte N m = cByte L m) :
    Calls Try.prog 16 #[.slice A n c, .agg #[vu f, vu len], sv T, .slice A2 n2 c2, vu m] w fun e w' => e = .returned (.bool true) ∧ Below w.heap.size w w' := by
  have hn2 : n2 ≤ 65536 := by have := hL.1; omega
  have HR : Hid (∀ W, Below w.heap.size w W → Calls Try.prog 13 #[.slice A n c, .agg #[vu f, vu len]] W fun e w' => e = .returned (.tuple #[sv T, .int .i64 0]) ∧ Below W.heap.size W w') := Lib.hid fun W hb => by
    have h0 : cWhy N f len = 0 := cWhy_ok.2 ⟨hN, h1, h2, h3⟩
    have := nread_any A n c f len N W (hA.later hb) hl hn (by omega) (by omega)
    rw [cText, if_pos h0, h0, hT] at this
    exact this
  have HG : Hid (∀ W, Below w.heap.size w W → Calls Try.prog 14 #[.slice A n c] W fun e w' => e = .returned (.bool true) ∧ Below W.heap.size W w') := Lib.hid fun W hb => by
    have := nright_any A n c N W (hA.later hb) hl hn
    rw [decide_eq_true hN] at this
    exact this
  have H1 : Hid (∀ W, Below w.heap.size w W → Calls Try.prog 13 #[.slice A n c, .agg #[vu m, .int .u64 1]] W fun e w' => e = .returned (.tuple #[sv [cByte N m], .int .i64 0]) ∧ Below W.heap.size W w') := Lib.hid fun W hb => by
    have h0 : cWhy N m 1 = 0 := cWhy_ok.2 ⟨hN, by omega, by omega, by omega⟩
    have := nread_any A n c m 1 N W (hA.later hb) hl hn hm (by omega)
    rw [cText, if_pos h0, h0] at this
    exact this
  have H2 : Hid (∀ W, Below w.heap.size w W → Calls Try.prog 13 #[.slice A2 n2 c2, .agg #[vu m, .int .u64 1]] W fun e w' => e = .returned (.tuple #[sv [cByte L m], .int .i64 0]) ∧ Below W.heap.size W w') := Lib.hid fun W hb => by
    have h0 : cWhy L m 1 = 0 := cWhy_ok.2 ⟨hL, by omega, by omega, by omega⟩
    have := nread_any A2 n2 c2 m 1 L W (hA2.later hb) hl2 hn2 hm (by omega)
    rw [cText, if_pos h0, h0] at this
    exact this
  clear hA hl hA2 hl2 hN hL hT hn hn2
  by_cases hin : f ≤ m ∧ m < f + len
  · have q1 : (f : Int) ≤ (m : Int) := by omega
    have q2 : IntKind.u64.wrap ((m : Int) - (f : Int)) = (m : Int) - (f : Int) := IntWalk.u64_in _ ⟨by omega, by omega⟩
    have q3 : (m : Int) - (f : Int) < (len : Int) := by omega
    clear hB hin h3 h2 h1 hm H1 H2
    go_enter Try.func16, Try.ntmps16
    go_wp2_with fail
    refine (HR.out _ (ba (Below.refl _ _) _)).mono ?_
    rintro e w1 ⟨rfl, hb1⟩
    obtain ⟨r0, _⟩ := At.later (v := vu f) (b := w.heap.size) (o := 0) ⟨by go_simp, by go_simp⟩ hb1
    obtain ⟨r1, _⟩ := At.later (v := vu len) (b := w.heap.size) (o := 1) ⟨by go_simp, by go_simp⟩ hb1
    have HB1 := Lib.hid (bt (ba (Below.refl w.heap.size w) _) hb1)
    clear hb1
    go_wp2_with fail
    refine (HG.out _ HB1.out).mono ?_
    rintro e w2 ⟨rfl, hb2⟩
    have s0 := cell_later hb2 r0
    have s1 := cell_later hb2 r1
    have HB2 := Lib.hid (bt HB1.out hb2)
    clear hb2 r0 r1
    go_wp2
    go_ret
    exact ⟨rfl, HB2.out⟩
  · have hBB := hB hin
    rw [hBB] at H1
    generalize cByte L m = b at *
    by_cases q1 : f ≤ m
    · have q1i : (f : Int) ≤ (m : Int) := by omega
      have q2 : IntKind.u64.wrap ((m : Int) - (f : Int)) = (m : Int) - (f : Int) := IntWalk.u64_in _ ⟨by omega, by omega⟩
      have q3 : ¬ ((m : Int) - (f : Int) < (len : Int)) := by omega
      clear hB hin h3 h2 h1 hm hBB q1
      go_enter Try.func16, Try.ntmps16
      go_wp2_with fail
      refine (HR.out _ (ba (Below.refl _ _) _)).mono ?_
      rintro e w1 ⟨rfl, hb1⟩
      obtain ⟨r0, _⟩ := At.later (v := vu f) (b := w.heap.size) (o := 0) ⟨by go_simp, by go_simp⟩ hb1
      obtain ⟨r1, _⟩ := At.later (v := vu len) (b := w.heap.size) (o := 1) ⟨by go_simp, by go_simp⟩ hb1
      have HB1 := Lib.hid (bt (ba (Below.refl w.heap.size w) _) hb1)
      clear hb1
      go_wp2_with fail
      refine (HG.out _ HB1.out).mono ?_
      rintro e w2 ⟨rfl, hb2⟩
      have s0 := cell_later hb2 r0
      have s1 := cell_later hb2 r1
      have HB2 := Lib.hid (bt HB1.out hb2)
      clear hb2 r0 r1
      go_wp2_with fail
      refine (H1.out _ HB2.out).mono ?_
      rintro e w3 ⟨rfl, hb3⟩
      have HB3 := Lib.hid (bt HB2.out hb3)
      clear hb3
      go_wp2_with fail
      refine (H2.out _ HB3.out).mono ?_
      rintro e w4 ⟨rfl, hb4⟩
      have HB4 := Lib.hid (bt HB3.out hb4)
      clear hb4
      go_wp2
      go_ret
      exact ⟨by simp, HB4.out⟩
    · have q1i : ¬ ((f : Int) ≤ (m : Int)) := by omega
      clear hB hin h3 h2 h1 hm hBB q1
      go_enter Try.func16, Try.ntmps16
      go_wp2_with fail
      refine (HR.out _ (ba (Below.refl _ _) _)).mono ?_
      rintro e w1 ⟨rfl, hb1⟩
      obtain ⟨r0, _⟩ := At.later (v := vu f) (b := w.heap.size) (o := 0) ⟨by go_simp, by go_simp⟩ hb1
      have HB1 := Lib.hid (bt (ba (Below.refl w.heap.size w) _) hb1)
      clear hb1
      go_wp2_with fail
      refine (HG.out _ HB1.out).mono ?_
      rintro e w2 ⟨rfl, hb2⟩
      have s0 := cell_later hb2 r0
      have HB2 := Lib.hid (bt HB1.out hb2)
      clear hb2 r0
      go_wp2_with fail
      refine (H1.out _ HB2.out).mono ?_
      rintro e w3 ⟨rfl, hb3⟩
      have HB3 := Lib.hid (bt HB2.out hb3)
      clear hb3
      go_wp2_with fail
      refine (H2.out _ HB3.out).mono ?_
      rintro e w4 ⟨rfl, hb4⟩
      have HB4 := Lib.hid (bt HB3.out hb4)
      clear hb4
      go_wp2
      go_ret
      exact ⟨by simp, HB4.out⟩
end Go.Proofs.Ytbecambkjmheiaa
/- What the stage's theorem says of plain lists. -/
namespace Go.Proofs.Ytbecambkjmheiaa
open Go.RowKit

theorem nmap_zero (n : Nat) : ((List.range n).map fun _ => (0 : UInt8)) = List.replicate n 0 := by
  apply List.ext_getElem
  · simp
  · intro i h1 h2; simp
theorem nmap_get (D : List UInt8) : ((List.range D.length).map fun i => D.getD i 0) = D := by
  apply List.ext_getElem
  · simp
  · intro i h1 h2
    have : i < D.length := h2
    simp [List.getD, this]
/-- What a change leaves that is told to be one. -/
def NGood (L N : List CL) (f len : Nat) (T : List UInt8) : Prop := CRt N ∧ N.length ≤ 65536 ∧ cread N f len = T ∧ ∀ m, ¬ (f ≤ m ∧ m < f + len) → cByte N m = cByte L m
theorem ngood_of {L : List CL} {f len w : Nat} {g : Nat → UInt8} (h : cWhy L f len = 0) (hl : (cNow L f len (cF w g f len)).length ≤ 64) :
    NGood L (cNow L f len (cF w g f len)) f len (if w = 4 then cread L f len else (List.range len).map fun i => if w = 1 then g i else 0) := by
  obtain ⟨h1, h2, h3, h4⟩ := cWhy_ok.1 h
  rw [cNow_yes h] at hl ⊢
  refine ⟨?_, by omega, ?_, fun m hm => ?_⟩
  · refine cdo_rt h1 (cF_n _ _ _ _) ?_ (fun c hc hi => cF_ok c hc hi) hl
    unfold mK; omega
  · exact cread_do h1 h2
  · have := cbyte_do (w := w) (g := g) (f := f) (len := len) h1 h2 m
    rw [if_neg (fun hh => hm hh.2)] at this
    exact this
theorem ngood_d {L : List CL} {f len : Nat} (h : cWhy L f len = 0) : NGood L (cNow L f len (FD f len)) f len (List.replicate len 0) ∧ (cNow L f len (FD f len)).length ≤ L.length := by
  obtain ⟨h1, h2, h3, h4⟩ := cWhy_ok.1 h
  have hl : (cNow L f len (FD f len)).length ≤ L.length := by rw [cNow_yes h]; exact cdo_len (cup_cs h1.2.2) (cF_n _ _ _ _) (cF_hole _ _ _ (.inl rfl))
  have h5 := h1.1
  have := ngood_of (w := 2) (g := fun _ => 0) h (Nat.le_trans hl h5)
  rw [if_neg (by omega)] at this
  simp only [show ¬ ((2 : Nat) = 1) by omega, if_false, nmap_zero] at this
  exact ⟨this, hl⟩
theorem ngood_z {L : List CL} {f len : Nat} (h : cWhy L f len = 0) : NGood L (cNow L f len (FZ f len)) f len (List.replicate len 0) ∧ (cNow L f len (FZ f len)).length ≤ L.length := by
  obtain ⟨h1, h2, h3, h4⟩ := cWhy_ok.1 h
  have hl : (cNow L f len (FZ f len)).length ≤ L.length := by rw [cNow_yes h]; exact cdo_len (cup_cs h1.2.2) (cF_n _ _ _ _) (cF_hole _ _ _ (.inr rfl))
  have h5 := h1.1
  have := ngood_of (w := 3) (g := fun _ => 0) h (Nat.le_trans hl h5)
  rw [if_neg (by omega)] at this
  simp only [show ¬ ((3 : Nat) = 1) by omega, if_false, nmap_zero] at this
  exact ⟨this, hl⟩
theorem nfit_len {q : Int} {L : List CL} {f len : Nat} {F : CL → CL} (h : cWhy L f len = 0) (he : cwE q L f len F = 0) : cwN q L f len F = cNow L f len F ∧ (cNow L f len F).length ≤ 64 := by
  refine ⟨by rw [cwN, if_pos he], ?_⟩
  rw [cwE, if_neg (fun h' => h' h)] at he
  split at he
  · rename_i hf
    have := (cWhy_ok.1 h).1.1
    rcases hf with hf | hf
    · omega
    · exact hf.2
  · cases he
theorem ngood_w {q : Int} {L : List CL} {f : Nat} {D : List UInt8} (h : cWhy L f D.length = 0) (he : cwE q L f D.length (FW D f) = 0) : NGood L (cwN q L f D.length (FW D f)) f D.length D := by
  obtain ⟨e, hl⟩ := nfit_len h he
  rw [e]
  have := ngood_of (w := 1) (g := fun j => D.getD j 0) h hl
  rw [if_neg (by omega)] at this
  simp only [if_true, nmap_get] at this
  exact this
theorem ngood_r {q : Int} {L : List CL} {f len : Nat} (h : cWhy L f len = 0) (he : cwE q L f len (FR f len) = 0) : NGood L (cwN q L f len (FR f len)) f len (cread L f len) := by
  obtain ⟨e, hl⟩ := nfit_len h he
  rw [e]
  have := ngood_of (w := 4) (g := fun _ => 0) h hl
  rw [if_pos rfl] at this
  exact this
theorem nsame_good {A A2 : Option Addr} {n c n2 c2 f len m : Nat} {N L : List CL} {T : List UInt8} {w : World} (hA : CR w A N) (hl : N.length = n) (hA2 : CR w A2 L) (hl2 : L.length = n2) (hG : NGood L N f len T) (hW : cWhy L f len = 0) (hm : m < 18446744073709551616) :
    Calls Try.prog 16 #[.slice A n c, .agg #[vu f, vu len], sv T, .slice A2 n2 c2, vu m] w fun e w' => e = .returned (.bool true) ∧ Below w.heap.size w w' := by
  obtain ⟨g1, g2, g3, g4⟩ := hG
  obtain ⟨h1, h2, h3, h4⟩ := cWhy_ok.1 hW
  exact nsame_yes A A2 n c n2 c2 f len m N L T w hA hl (by omega) hA2 hl2 g1 h1 h2 h3 h4 hm g3 (g4 m)
end Go.Proofs.Ytbecambkjmheiaa
