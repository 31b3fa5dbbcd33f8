/- Texts of this seat, one behind the other: NOps, NTold, NHBld. -/
import Derived.Shelf.Strings.Builder1
import Derived.Shelf.Strings.Builder2
import Derived.Test.YtbecambkjmheiaaRows
import Derived.Test.YtbecambkjmheiaaQ15
import Derived.Test.YtbecambkjmheiaaQ16
import Derived.Test.YtbecambkjmheiaaQ17
import Derived.Test.YtbecambkjmheiaaQ18
import Derived.Test.YtbecambkjmheiaaQ19
import Derived.Test.YtbecambkjmheiaaQ20
/- The contracts of Write, Reserve, Discard and Zero. -/
namespace Go.Proofs.Ytbecambkjmheiaa
open Go.RowKit

/-- Cells are not too many. -/
def cFit (q : Int) (L N : List CL) : Prop := N.length ≤ L.length ∨ ((N.length : Int) ≤ q ∧ N.length ≤ 64)
instance (q : Int) (L N : List CL) : Decidable (cFit q L N) := by unfold cFit; infer_instance
/-- What is told, and the cells then, where there is a quota. -/
def cwE (q : Int) (L : List CL) (f len : Nat) (F : CL → CL) : Int := if cWhy L f len ≠ 0 then cWhy L f len else if cFit q L (cNow L f len F) then 0 else 6
def cwN (q : Int) (L : List CL) (f len : Nat) (F : CL → CL) : List CL := if cwE q L f len F = 0 then cNow L f len F else []
theorem cNow_no {L : List CL} {f len : Nat} {F : CL → CL} (h : cWhy L f len ≠ 0) : cNow L f len F = [] := by rw [cNow, if_neg h]
theorem cNow_yes {L : List CL} {f len : Nat} {F : CL → CL} (h : cWhy L f len = 0) : cNow L f len F = cdo L F (f / 32) (mK f len) := by rw [cNow, if_pos h]
theorem cNow_len {L : List CL} {f len : Nat} {F : CL → CL} (hF : ∀ c, (F c).n = c.n) : (cNow L f len F).length ≤ 72 := by
  by_cases h : cWhy L f len = 0
  · rw [cNow_yes h]
    obtain ⟨h1, h2, h3, h4⟩ := cWhy_ok.1 h
    have := cdo_len1 (a := f / 32) (k := mK f len) (cup_cs h1.2.2) hF
    have := mK_8 (f := f) h3
    have := h1.1
    omega
  · rw [cNow_no h]; simp
theorem nchW_any (bd bf : Nat) (A : Option Addr) (n c f len : Nat) (L : List CL) (F : CL → CL) (w : World) (hA : CR w A L) (hl : L.length = n) (h0 : A = none → c = 0) (hn : n ≤ 65536) (hf : f < 18446744073709551616) (hm : len < 18446744073709551616) (hB : cWhy L f len = 0 → ByF w 18 #[.pointer (some ⟨bd, 0, none⟩), .pointer (some ⟨bf, 0, none⟩)] F f len) (hF : ∀ c, (F c).n = c.n) :
    Calls Try.prog 25 #[.slice A n c, .agg #[vu f, vu len], .func (.func 18) #[] #[.pointer (some ⟨bd, 0, none⟩), .pointer (some ⟨bf, 0, none⟩)]] w fun e w' => ∃ B d, e = .returned (.tuple #[.slice B (cNow L f len F).length d, .int .i64 (cWhy L f len)]) ∧ (cNow L f len F).length ≤ d ∧ (B = none → d = 0) ∧ CR w' B (cNow L f len F) ∧ Below w.heap.size w w' := by
  by_cases h : cWhy L f len = 0
  · obtain ⟨h1, h2, h3, h4⟩ := cWhy_ok.1 h
    refine (nchW_yes bd bf A n c f len L F w hA hl h0 h1 h2 h3 h4 (hB h) hF).mono ?_
    rintro e w' ⟨B, d, rfl, k1, k2, k3⟩
    rw [cNow_yes h, h]
    exact ⟨B, d, rfl, k1.1, k1.2, k2, k3⟩
  · refine (nchW_no bd bf A n c f len L w hA hl hn hf hm h).mono ?_
    rintro e w' ⟨rfl, k3⟩
    rw [cNow_no h]
    exact ⟨none, 0, rfl, Nat.le_refl _, fun _ => rfl, CR.nil _ _, k3⟩
theorem nchD_any (A : Option Addr) (n c f len : Nat) (L : List CL) (F : CL → CL) (w : World) (hA : CR w A L) (hl : L.length = n) (h0 : A = none → c = 0) (hn : n ≤ 65536) (hf : f < 18446744073709551616) (hm : len < 18446744073709551616) (hB : cWhy L f len = 0 → ByF w 26 #[] F f len) (hF : ∀ c, (F c).n = c.n) :
    Calls Try.prog 25 #[.slice A n c, .agg #[vu f, vu len], .func (.func 26) #[] #[]] w fun e w' => ∃ B d, e = .returned (.tuple #[.slice B (cNow L f len F).length d, .int .i64 (cWhy L f len)]) ∧ (cNow L f len F).length ≤ d ∧ (B = none → d = 0) ∧ CR w' B (cNow L f len F) ∧ Below w.heap.size w w' := by
  by_cases h : cWhy L f len = 0
  · obtain ⟨h1, h2, h3, h4⟩ := cWhy_ok.1 h
    refine (nchD_yes A n c f len L F w hA hl h0 h1 h2 h3 h4 (hB h) hF).mono ?_
    rintro e w' ⟨B, d, rfl, k1, k2, k3⟩
    rw [cNow_yes h, h]
    exact ⟨B, d, rfl, k1.1, k1.2, k2, k3⟩
  · refine (nchD_no A n c f len L w hA hl hn hf hm h).mono ?_
    rintro e w' ⟨rfl, k3⟩
    rw [cNow_no h]
    exact ⟨none, 0, rfl, Nat.le_refl _, fun _ => rfl, CR.nil _ _, k3⟩
theorem nchZ_any (A : Option Addr) (n c f len : Nat) (L : List CL) (F : CL → CL) (w : World) (hA : CR w A L) (hl : L.length = n) (h0 : A = none → c = 0) (hn : n ≤ 65536) (hf : f < 18446744073709551616) (hm : len < 18446744073709551616) (hB : cWhy L f len = 0 → ByF w 29 #[] F f len) (hF : ∀ c, (F c).n = c.n) :
    Calls Try.prog 25 #[.slice A n c, .agg #[vu f, vu len], .func (.func 29) #[] #[]] w fun e w' => ∃ B d, e = .returned (.tuple #[.slice B (cNow L f len F).length d, .int .i64 (cWhy L f len)]) ∧ (cNow L f len F).length ≤ d ∧ (B = none → d = 0) ∧ CR w' B (cNow L f len F) ∧ Below w.heap.size w w' := by
  by_cases h : cWhy L f len = 0
  · obtain ⟨h1, h2, h3, h4⟩ := cWhy_ok.1 h
    refine (nchZ_yes A n c f len L F w hA hl h0 h1 h2 h3 h4 (hB h) hF).mono ?_
    rintro e w' ⟨B, d, rfl, k1, k2, k3⟩
    rw [cNow_yes h, h]
    exact ⟨B, d, rfl, k1.1, k1.2, k2, k3⟩
  · refine (nchZ_no A n c f len L w hA hl hn hf hm h).mono ?_
    rintro e w' ⟨rfl, k3⟩
    rw [cNow_no h]
    exact ⟨none, 0, rfl, Nat.le_refl _, fun _ => rfl, CR.nil _ _, k3⟩
theorem nchR_any (A : Option Addr) (n c f len : Nat) (L : List CL) (F : CL → CL) (w : World) (hA : CR w A L) (hl : L.length = n) (h0 : A = none → c = 0) (hn : n ≤ 65536) (hf : f < 18446744073709551616) (hm : len < 18446744073709551616) (hB : cWhy L f len = 0 → ByF w 20 #[] F f len) (hF : ∀ c, (F c).n = c.n) :
    Calls Try.prog 25 #[.slice A n c, .agg #[vu f, vu len], .func (.func 20) #[] #[]] w fun e w' => ∃ B d, e = .returned (.tuple #[.slice B (cNow L f len F).length d, .int .i64 (cWhy L f len)]) ∧ (cNow L f len F).length ≤ d ∧ (B = none → d = 0) ∧ CR w' B (cNow L f len F) ∧ Below w.heap.size w w' := by
  by_cases h : cWhy L f len = 0
  · obtain ⟨h1, h2, h3, h4⟩ := cWhy_ok.1 h
    refine (nchR_yes A n c f len L F w hA hl h0 h1 h2 h3 h4 (hB h) hF).mono ?_
    rintro e w' ⟨B, d, rfl, k1, k2, k3⟩
    rw [cNow_yes h, h]
    exact ⟨B, d, rfl, k1.1, k1.2, k2, k3⟩
  · refine (nchR_no A n c f len L w hA hl hn hf hm h).mono ?_
    rintro e w' ⟨rfl, k3⟩
    rw [cNow_no h]
    exact ⟨none, 0, rfl, Nat.le_refl _, fun _ => rfl, CR.nil _ _, k3⟩

set_option maxRecDepth 100000 in
set_option maxHeartbeats 4000000 in
theorem nwiW_any (bd bf : Nat) (A : Option Addr) (n c f len : Nat) (q : Int) (L : List CL) (F : CL → CL) (w : World) (hA : CR w A L) (hl : L.length = n) (h0 : A = none → c = 0) (hn : n ≤ 65536) (hf : f < 18446744073709551616) (hm : len < 18446744073709551616) (hB : cWhy L f len = 0 → ByF w 18 #[.pointer (some ⟨bd, 0, none⟩), .pointer (some ⟨bf, 0, none⟩)] F f len) (hF : ∀ c, (F c).n = c.n) :
    Calls Try.prog 17 #[.int .i64 q, .slice A n c, .agg #[vu f, vu len], .func (.func 18) #[] #[.pointer (some ⟨bd, 0, none⟩), .pointer (some ⟨bf, 0, none⟩)]] w fun e w' => ∃ B d, e = .returned (.tuple #[.slice B (cwN q L f len F).length d, .int .i64 (cwE q L f len F)]) ∧ (cwN q L f len F).length ≤ d ∧ (B = none → d = 0) ∧ CR w' B (cwN q L f len F) ∧ Below w.heap.size w w' := by
  have HC : Hid (∀ W, Below w.heap.size w W → Calls Try.prog 25 #[.slice A n c, .agg #[vu f, vu len], .func (.func 18) #[] #[.pointer (some ⟨bd, 0, none⟩), .pointer (some ⟨bf, 0, none⟩)]] W fun e w' => ∃ B d, e = .returned (.tuple #[.slice B (cNow L f len F).length d, .int .i64 (cWhy L f len)]) ∧ (cNow L f len F).length ≤ d ∧ (B = none → d = 0) ∧ CR w' B (cNow L f len F) ∧ Below W.heap.size W w') := Lib.hid fun W hb =>
    nchW_any bd bf A n c f len L F W (hA.later hb) hl h0 hn hf hm (fun h V hV => hB h V (hb.trans (hV.mono hb.size))) hF
  have HLN := Lib.hid (cNow_len (L := L) (f := f) (len := len) hF)
  have HE : Hid (cWhy L f len ≠ 0 → cwE q L f len F = cWhy L f len ∧ cwN q L f len F = []) := Lib.hid fun h => by
    have e : cwE q L f len F = cWhy L f len := by rw [cwE, if_pos h]
    exact ⟨e, by rw [cwN, e, if_neg h]⟩
  have HY : Hid (cWhy L f len = 0 → cFit q L (cNow L f len F) → cwE q L f len F = 0 ∧ cwN q L f len F = cNow L f len F) := Lib.hid fun h h2 => by
    have e : cwE q L f len F = 0 := by rw [cwE, if_neg (fun h' => h' h), if_pos h2]
    exact ⟨e, by rw [cwN, if_pos e]⟩
  have HX : Hid (cWhy L f len = 0 → ¬ cFit q L (cNow L f len F) → cwE q L f len F = 6 ∧ cwN q L f len F = []) := Lib.hid fun h h2 => by
    have e : cwE q L f len F = 6 := by rw [cwE, if_neg (fun h' => h' h), if_neg h2]
    exact ⟨e, by rw [cwN, e, if_neg (by omega)]⟩
  have HFit : Hid (cFit q L (cNow L f len F) ↔ ((cNow L f len F).length ≤ n ∨ (((cNow L f len F).length : Int) ≤ q ∧ (cNow L f len F).length ≤ 64))) := Lib.hid (by rw [← hl]; exact Iff.rfl)
  generalize cNow L f len F = N at *
  generalize hM : N.length = M at *
  have HM := Lib.hid hM
  clear hA hl h0 hf hm hB hF hM
  by_cases h : cWhy L f len = 0
  · rw [h] at HC
    by_cases hle : M ≤ n
    · obtain ⟨e1, e2⟩ := HY.out h (HFit.out.2 (.inl hle))
      rw [e1, e2]
      clear HE HY HX e1 e2 h
      have hd : ¬ ((n : Int) < (M : Int)) := by omega
      have hd2 : ¬ (n < M) := by omega
      go_enter Try.func17, Try.ntmps17
      go_wp2_with fail
      refine (HC.out _ (ba (Below.refl _ _) _)).mono ?_
      rintro e w1 ⟨B, d, rfl, k1, k2, k3, k4⟩
      have HK : Hid (M ≤ d ∧ (B = none → d = 0) ∧ CR w1 B N ∧ Below w.heap.size w w1) := Lib.hid ⟨k1, k2, k3, bt (ba (Below.refl w.heap.size w) _) k4⟩
      clear k1 k2 k3 k4
      go_wp2
      go_ret2
      rw [HM.out]
      exact ⟨B, d, rfl, HK.out⟩
    · by_cases hq : (M : Int) ≤ q ∧ M ≤ 64
      · obtain ⟨e1, e2⟩ := HY.out h (HFit.out.2 (.inr hq))
        rw [e1, e2]
        clear HE HY HX e1 e2 h
        have hd : ((n : Int) < (M : Int)) := by omega
        have hd2 : (n < M) := by omega
        have hd3 : ¬ (min q 64 < (M : Int)) := by omega
        clear hq hle
        go_enter Try.func17, Try.ntmps17
        go_wp2_with fail
        refine (HC.out _ (ba (Below.refl _ _) _)).mono ?_
        rintro e w1 ⟨B, d, rfl, k1, k2, k3, k4⟩
        have HK : Hid (M ≤ d ∧ (B = none → d = 0) ∧ CR w1 B N ∧ Below w.heap.size w w1) := Lib.hid ⟨k1, k2, k3, bt (ba (Below.refl w.heap.size w) _) k4⟩
        clear k1 k2 k3 k4
        rcases Int.le_total q 64 with hq4 | hq4
        · have hm9 : min q 64 = q := Int.min_eq_left hq4
          rw [hm9] at hd3
          go_wp2
          go_ret2
          rw [HM.out]
          exact ⟨B, d, rfl, HK.out⟩
        · have hm9 : min q 64 = 64 := Int.min_eq_right hq4
          rw [hm9] at hd3
          have hd5 : ¬ (64 < M) := by omega
          go_wp2
          go_ret2
          rw [HM.out]
          exact ⟨B, d, rfl, HK.out⟩
      · obtain ⟨e1, e2⟩ := HX.out h (fun hh => by rcases HFit.out.1 hh with h2 | h2; exact hle h2; exact hq h2)
        rw [e1, e2]
        clear HE HY HX e1 e2 h
        have hd : ((n : Int) < (M : Int)) := by omega
        have hd2 : (n < M) := by omega
        have hd3 : (min q 64 < (M : Int)) := by omega
        clear hq hle
        go_enter Try.func17, Try.ntmps17
        go_wp2_with fail
        refine (HC.out _ (ba (Below.refl _ _) _)).mono ?_
        rintro e w1 ⟨B, d, rfl, k1, k2, k3, k4⟩
        have HK : Hid (Below w.heap.size w w1) := Lib.hid (bt (ba (Below.refl w.heap.size w) _) k4)
        clear k1 k2 k3 k4
        rcases Int.le_total q 64 with hq4 | hq4
        · have hm9 : min q 64 = q := Int.min_eq_left hq4
          rw [hm9] at hd3
          go_wp2
          go_ret2
          exact ⟨none, 0, rfl, Nat.le_refl _, fun _ => rfl, CR.nil _ _, HK.out⟩
        · have hm9 : min q 64 = 64 := Int.min_eq_right hq4
          rw [hm9] at hd3
          have hd5 : (64 < M) := by omega
          go_wp2
          go_ret2
          exact ⟨none, 0, rfl, Nat.le_refl _, fun _ => rfl, CR.nil _ _, HK.out⟩
  · obtain ⟨e1, e2⟩ := HE.out h
    rw [e1, e2]
    clear HE HY HX e1 e2
    generalize cWhy L f len = E at *
    have hE : decide (E = 0) = false := by simpa using h
    go_enter Try.func17, Try.ntmps17
    go_wp2_with fail
    refine (HC.out _ (ba (Below.refl _ _) _)).mono ?_
    rintro e w1 ⟨B, d, rfl, k1, k2, k3, k4⟩
    have HK : Hid (Below w.heap.size w w1) := Lib.hid (bt (ba (Below.refl w.heap.size w) _) k4)
    clear k1 k2 k3 k4
    go_wp2
    go_ret2
    exact ⟨none, 0, rfl, Nat.le_refl _, fun _ => rfl, CR.nil _ _, HK.out⟩

set_option maxRecDepth 100000 in
set_option maxHeartbeats 4000000 in
theorem nwiR_any (A : Option Addr) (n c f len : Nat) (q : Int) (L : List CL) (F : CL → CL) (w : World) (hA : CR w A L) (hl : L.length = n) (h0 : A = none → c = 0) (hn : n ≤ 65536) (hf : f < 18446744073709551616) (hm : len < 18446744073709551616) (hB : cWhy L f len = 0 → ByF w 20 #[] F f len) (hF : ∀ c, (F c).n = c.n) :
    Calls Try.prog 17 #[.int .i64 q, .slice A n c, .agg #[vu f, vu len], .func (.func 20) #[] #[]] w fun e w' => ∃ B d, e = .returned (.tuple #[.slice B (cwN q L f len F).length d, .int .i64 (cwE q L f len F)]) ∧ (cwN q L f len F).length ≤ d ∧ (B = none → d = 0) ∧ CR w' B (cwN q L f len F) ∧ Below w.heap.size w w' := by
  have HC : Hid (∀ W, Below w.heap.size w W → Calls Try.prog 25 #[.slice A n c, .agg #[vu f, vu len], .func (.func 20) #[] #[]] W fun e w' => ∃ B d, e = .returned (.tuple #[.slice B (cNow L f len F).length d, .int .i64 (cWhy L f len)]) ∧ (cNow L f len F).length ≤ d ∧ (B = none → d = 0) ∧ CR w' B (cNow L f len F) ∧ Below W.heap.size W w') := Lib.hid fun W hb =>
    nchR_any A n c f len L F W (hA.later hb) hl h0 hn hf hm (fun h V hV => hB h V (hb.trans (hV.mono hb.size))) hF
  have HLN := Lib.hid (cNow_len (L := L) (f := f) (len := len) hF)
  have HE : Hid (cWhy L f len ≠ 0 → cwE q L f len F = cWhy L f len ∧ cwN q L f len F = []) := Lib.hid fun h => by
    have e : cwE q L f len F = cWhy L f len := by rw [cwE, if_pos h]
    exact ⟨e, by rw [cwN, e, if_neg h]⟩
  have HY : Hid (cWhy L f len = 0 → cFit q L (cNow L f len F) → cwE q L f len F = 0 ∧ cwN q L f len F = cNow L f len F) := Lib.hid fun h h2 => by
    have e : cwE q L f len F = 0 := by rw [cwE, if_neg (fun h' => h' h), if_pos h2]
    exact ⟨e, by rw [cwN, if_pos e]⟩
  have HX : Hid (cWhy L f len = 0 → ¬ cFit q L (cNow L f len F) → cwE q L f len F = 6 ∧ cwN q L f len F = []) := Lib.hid fun h h2 => by
    have e : cwE q L f len F = 6 := by rw [cwE, if_neg (fun h' => h' h), if_neg h2]
    exact ⟨e, by rw [cwN, e, if_neg (by omega)]⟩
  have HFit : Hid (cFit q L (cNow L f len F) ↔ ((cNow L f len F).length ≤ n ∨ (((cNow L f len F).length : Int) ≤ q ∧ (cNow L f len F).length ≤ 64))) := Lib.hid (by rw [← hl]; exact Iff.rfl)
  generalize cNow L f len F = N at *
  generalize hM : N.length = M at *
  have HM := Lib.hid hM
  clear hA hl h0 hf hm hB hF hM
  by_cases h : cWhy L f len = 0
  · rw [h] at HC
    by_cases hle : M ≤ n
    · obtain ⟨e1, e2⟩ := HY.out h (HFit.out.2 (.inl hle))
      rw [e1, e2]
      clear HE HY HX e1 e2 h
      have hd : ¬ ((n : Int) < (M : Int)) := by omega
      have hd2 : ¬ (n < M) := by omega
      go_enter Try.func17, Try.ntmps17
      go_wp2_with fail
      refine (HC.out _ (ba (Below.refl _ _) _)).mono ?_
      rintro e w1 ⟨B, d, rfl, k1, k2, k3, k4⟩
      have HK : Hid (M ≤ d ∧ (B = none → d = 0) ∧ CR w1 B N ∧ Below w.heap.size w w1) := Lib.hid ⟨k1, k2, k3, bt (ba (Below.refl w.heap.size w) _) k4⟩
      clear k1 k2 k3 k4
      go_wp2
      go_ret2
      rw [HM.out]
      exact ⟨B, d, rfl, HK.out⟩
    · by_cases hq : (M : Int) ≤ q ∧ M ≤ 64
      · obtain ⟨e1, e2⟩ := HY.out h (HFit.out.2 (.inr hq))
        rw [e1, e2]
        clear HE HY HX e1 e2 h
        have hd : ((n : Int) < (M : Int)) := by omega
        have hd2 : (n < M) := by omega
        have hd3 : ¬ (min q 64 < (M : Int)) := by omega
        clear hq hle
        go_enter Try.func17, Try.ntmps17
        go_wp2_with fail
        refine (HC.out _ (ba (Below.refl _ _) _)).mono ?_
        rintro e w1 ⟨B, d, rfl, k1, k2, k3, k4⟩
        have HK : Hid (M ≤ d ∧ (B = none → d = 0) ∧ CR w1 B N ∧ Below w.heap.size w w1) := Lib.hid ⟨k1, k2, k3, bt (ba (Below.refl w.heap.size w) _) k4⟩
        clear k1 k2 k3 k4
        rcases Int.le_total q 64 with hq4 | hq4
        · have hm9 : min q 64 = q := Int.min_eq_left hq4
          rw [hm9] at hd3
          go_wp2
          go_ret2
          rw [HM.out]
          exact ⟨B, d, rfl, HK.out⟩
        · have hm9 : min q 64 = 64 := Int.min_eq_right hq4
          rw [hm9] at hd3
          have hd5 : ¬ (64 < M) := by omega
          go_wp2
          go_ret2
          rw [HM.out]
          exact ⟨B, d, rfl, HK.out⟩
      · obtain ⟨e1, e2⟩ := HX.out h (fun hh => by rcases HFit.out.1 hh with h2 | h2; exact hle h2; exact hq h2)
        rw [e1, e2]
        clear HE HY HX e1 e2 h
        have hd : ((n : Int) < (M : Int)) := by omega
        have hd2 : (n < M) := by omega
        have hd3 : (min q 64 < (M : Int)) := by omega
        clear hq hle
        go_enter Try.func17, Try.ntmps17
        go_wp2_with fail
        refine (HC.out _ (ba (Below.refl _ _) _)).mono ?_
        rintro e w1 ⟨B, d, rfl, k1, k2, k3, k4⟩
        have HK : Hid (Below w.heap.size w w1) := Lib.hid (bt (ba (Below.refl w.heap.size w) _) k4)
        clear k1 k2 k3 k4
        rcases Int.le_total q 64 with hq4 | hq4
        · have hm9 : min q 64 = q := Int.min_eq_left hq4
          rw [hm9] at hd3
          go_wp2
          go_ret2
          exact ⟨none, 0, rfl, Nat.le_refl _, fun _ => rfl, CR.nil _ _, HK.out⟩
        · have hm9 : min q 64 = 64 := Int.min_eq_right hq4
          rw [hm9] at hd3
          have hd5 : (64 < M) := by omega
          go_wp2
          go_ret2
          exact ⟨none, 0, rfl, Nat.le_refl _, fun _ => rfl, CR.nil _ _, HK.out⟩
  · obtain ⟨e1, e2⟩ := HE.out h
    rw [e1, e2]
    clear HE HY HX e1 e2
    generalize cWhy L f len = E at *
    have hE : decide (E = 0) = false := by simpa using h
    go_enter Try.func17, Try.ntmps17
    go_wp2_with fail
    refine (HC.out _ (ba (Below.refl _ _) _)).mono ?_
    rintro e w1 ⟨B, d, rfl, k1, k2, k3, k4⟩
    have HK : Hid (Below w.heap.size w w1) := Lib.hid (bt (ba (Below.refl w.heap.size w) _) k4)
    clear k1 k2 k3 k4
    go_wp2
    go_ret2
    exact ⟨none, 0, rfl, Nat.le_refl _, fun _ => rfl, CR.nil _ _, HK.out⟩

/-- What each of them makes of a block. -/
abbrev FW (data : List UInt8) (f : Nat) : CL → CL := cF 1 (fun j => data.getD j 0) f data.length
abbrev FD (f len : Nat) : CL → CL := cF 2 (fun _ => 0) f len
abbrev FZ (f len : Nat) : CL → CL := cF 3 (fun _ => 0) f len
abbrev FR (f len : Nat) : CL → CL := cF 4 (fun _ => 0) f len

set_option maxRecDepth 100000 in
set_option maxHeartbeats 2000000 in
theorem ndiscard_any (A : Option Addr) (n c f len : Nat) (L : List CL) (w : World) (hA : CR w A L) (hl : L.length = n) (h0 : A = none → c = 0) (hn : n ≤ 65536) (hf : f < 18446744073709551616) (hm : len < 18446744073709551616) :
    Calls Try.prog 11 #[.slice A n c, .agg #[vu f, vu len]] w fun e w' => ∃ B d, e = .returned (.tuple #[.slice B (cNow L f len (FD f len)).length d, .int .i64 (cWhy L f len)]) ∧ (cNow L f len (FD f len)).length ≤ d ∧ (B = none → d = 0) ∧ CR w' B (cNow L f len (FD f len)) ∧ Below w.heap.size w w' := by
  have HC := Lib.hid (fun W (hb : Below w.heap.size w W) => nchD_any A n c f len L (FD f len) W (hA.later hb) hl h0 hn hf hm (fun h => by obtain ⟨_, h2, _, h4⟩ := cWhy_ok.1 h; exact nby_discard _ f len W h2 h4) (cF_n _ _ _ _))
  clear hA hl h0
  generalize cNow L f len (FD f len) = N at *
  generalize cWhy L f len = E at *
  go_enter Try.func11, Try.ntmps11
  go_wp2_with fail
  refine (HC.out _ (ba (Below.refl _ _) _)).mono ?_
  rintro e w1 ⟨B, d, rfl, k1, k2, k3, k4⟩
  have HK : Hid (N.length ≤ d ∧ (B = none → d = 0) ∧ CR w1 B N ∧ Below w.heap.size w w1) := Lib.hid ⟨k1, k2, k3, bt (ba (Below.refl w.heap.size w) _) k4⟩
  clear k1 k2 k3 k4
  go_wp2
  go_ret2
  exact ⟨B, d, rfl, HK.out⟩

set_option maxRecDepth 100000 in
set_option maxHeartbeats 2000000 in
theorem nzero_any (A : Option Addr) (n c f len : Nat) (L : List CL) (w : World) (hA : CR w A L) (hl : L.length = n) (h0 : A = none → c = 0) (hn : n ≤ 65536) (hf : f < 18446744073709551616) (hm : len < 18446744073709551616) :
    Calls Try.prog 12 #[.slice A n c, .agg #[vu f, vu len]] w fun e w' => ∃ B d, e = .returned (.tuple #[.slice B (cNow L f len (FZ f len)).length d, .int .i64 (cWhy L f len)]) ∧ (cNow L f len (FZ f len)).length ≤ d ∧ (B = none → d = 0) ∧ CR w' B (cNow L f len (FZ f len)) ∧ Below w.heap.size w w' := by
  have HC := Lib.hid (fun W (hb : Below w.heap.size w W) => nchZ_any A n c f len L (FZ f len) W (hA.later hb) hl h0 hn hf hm (fun h => by obtain ⟨_, h2, _, h4⟩ := cWhy_ok.1 h; exact nby_zero _ f len W h2 h4) (cF_n _ _ _ _))
  clear hA hl h0
  generalize cNow L f len (FZ f len) = N at *
  generalize cWhy L f len = E at *
  go_enter Try.func12, Try.ntmps12
  go_wp2_with fail
  refine (HC.out _ (ba (Below.refl _ _) _)).mono ?_
  rintro e w1 ⟨B, d, rfl, k1, k2, k3, k4⟩
  have HK : Hid (N.length ≤ d ∧ (B = none → d = 0) ∧ CR w1 B N ∧ Below w.heap.size w w1) := Lib.hid ⟨k1, k2, k3, bt (ba (Below.refl w.heap.size w) _) k4⟩
  clear k1 k2 k3 k4
  go_wp2
  go_ret2
  exact ⟨B, d, rfl, HK.out⟩

set_option maxRecDepth 100000 in
set_option maxHeartbeats 2000000 in
theorem nreserve_any (A : Option Addr) (n c f len : Nat) (q : Int) (L : List CL) (w : World) (hA : CR w A L) (hl : L.length = n) (h0 : A = none → c = 0) (hn : n ≤ 65536) (hf : f < 18446744073709551616) (hm : len < 18446744073709551616) :
    Calls Try.prog 8 #[.slice A n c, .int .i64 q, .agg #[vu f, vu len]] w fun e w' => ∃ B d, e = .returned (.tuple #[.slice B (cwN q L f len (FR f len)).length d, .int .i64 (cwE q L f len (FR f len))]) ∧ (cwN q L f len (FR f len)).length ≤ d ∧ (B = none → d = 0) ∧ CR w' B (cwN q L f len (FR f len)) ∧ Below w.heap.size w w' := by
  have HC := Lib.hid (fun W (hb : Below w.heap.size w W) => nwiR_any A n c f len q L (FR f len) W (hA.later hb) hl h0 hn hf hm (fun _ => nby_reserve _ f len W) (cF_n _ _ _ _))
  clear hA hl h0
  generalize cwN q L f len (FR f len) = N at *
  generalize cwE q L f len (FR f len) = E at *
  go_enter Try.func8, Try.ntmps8
  go_wp2_with fail
  refine (HC.out _ (ba (Below.refl _ _) _)).mono ?_
  rintro e w1 ⟨B, d, rfl, k1, k2, k3, k4⟩
  have HK : Hid (N.length ≤ d ∧ (B = none → d = 0) ∧ CR w1 B N ∧ Below w.heap.size w w1) := Lib.hid ⟨k1, k2, k3, bt (ba (Below.refl w.heap.size w) _) k4⟩
  clear k1 k2 k3 k4
  go_wp2
  go_ret2
  exact ⟨B, d, rfl, HK.out⟩

set_option maxRecDepth 100000 in
set_option maxHeartbeats 2000000 in
theorem nwrite_any (A : Option Addr) (n c f : Nat) (q : Int) (L : List CL) (data : List UInt8) (w : World) (hA : CR w A L) (hl : L.length = n) (h0 : A = none → c = 0) (hn : n ≤ 65536) (hf : f < 18446744073709551616) (hm : data.length ≤ 65536) :
    Calls Try.prog 7 #[.slice A n c, .int .i64 q, vu f, sv data] w fun e w' => ∃ B d, e = .returned (.tuple #[.slice B (cwN q L f data.length (FW data f)).length d, .int .i64 (cwE q L f data.length (FW data f))]) ∧ (cwN q L f data.length (FW data f)).length ≤ d ∧ (B = none → d = 0) ∧ CR w' B (cwN q L f data.length (FW data f)) ∧ Below w.heap.size w w' := by
  have HC : Hid (∀ W (_ : Below w.heap.size w W), Blk W w.heap.size 23 #[vu f] → Blk W (w.heap.size + 1) 9 #[sv data] → Calls Try.prog 17 #[.int .i64 q, .slice A n c, .agg #[vu f, vu data.length], .func (.func 18) #[] #[.pointer (some ⟨w.heap.size + 1, 0, none⟩), .pointer (some ⟨w.heap.size, 0, none⟩)]] W fun e w' => ∃ B d, e = .returned (.tuple #[.slice B (cwN q L f data.length (FW data f)).length d, .int .i64 (cwE q L f data.length (FW data f))]) ∧ (cwN q L f data.length (FW data f)).length ≤ d ∧ (B = none → d = 0) ∧ CR w' B (cwN q L f data.length (FW data f)) ∧ Below W.heap.size W w') := Lib.hid fun W hb b0 b1 =>
    nwiW_any (w.heap.size + 1) w.heap.size A n c f data.length q L (FW data f) W (hA.later hb) hl h0 hn hf (by omega) (fun h => by obtain ⟨_, h2, _, h4⟩ := cWhy_ok.1 h; exact nby_write w.heap.size (w.heap.size + 1) f data.length data W (b0.cell 0) (b1.cell 0) rfl h2 h4) (cF_n _ _ _ _)
  have hsz := size_mk data
  have hw : IntKind.u64.wrap ((data.length : Nat) : Int) = ((data.length : Nat) : Int) := IntWalk.u64_in _ ⟨by omega, by omega⟩
  clear hA hl h0
  generalize cwN q L f data.length (FW data f) = N at *
  generalize cwE q L f data.length (FW data f) = E at *
  have HB0 : Hid (Blk (((w.alloc (.cells #[vu f] 23)).alloc (.cells #[sv data] 9)).alloc (.cells #[vu f, vu data.length] 25)) w.heap.size 23 #[vu f] ∧ Blk (((w.alloc (.cells #[vu f] 23)).alloc (.cells #[sv data] 9)).alloc (.cells #[vu f, vu data.length] 25)) (w.heap.size + 1) 9 #[sv data]) := Lib.hid
    ⟨((Blk.new w _ _).alloc _).alloc _, (Blk.newAt (by simp) _ _).alloc _⟩
  go_enter Try.func7, Try.ntmps7
  go_wp2_with fail
  refine (HC.out _ (ba (ba (ba (Below.refl _ _) _) _) _) HB0.out.1 HB0.out.2).mono ?_
  rintro e w1 ⟨B, d, rfl, k1, k2, k3, k4⟩
  have HK : Hid (N.length ≤ d ∧ (B = none → d = 0) ∧ CR w1 B N ∧ Below w.heap.size w w1) := Lib.hid ⟨k1, k2, k3, bt (ba (ba (ba (Below.refl w.heap.size w) _) _) _) k4⟩
  clear k1 k2 k3 k4
  go_wp2
  go_ret2
  exact ⟨B, d, rfl, HK.out⟩
end Go.Proofs.Ytbecambkjmheiaa
/- The law's own told: is what came of a change as it should be? -/
namespace Go.Proofs.Ytbecambkjmheiaa
open Go.RowKit

set_option maxRecDepth 100000 in
set_option maxHeartbeats 1000000 in
theorem ntold_any (A B : Option Addr) (n c m d f len wh : Nat) (q e : Int) (T : List UInt8) (L N : List CL) (w : World) (hA : CR w A L) (hl : L.length = n) (hn : n ≤ 65536) (hB : CR w B N) (hm : N.length = m) (hm6 : m ≤ 65536) (hf : f < 18446744073709551616) (hlen : len < 18446744073709551616) (hw : wh = 1 ∨ wh = 2 ∨ wh = 3 ∨ wh = 4) (hT : wh = 1 → T.length = len)
    (he : e = cwE q L f len (cF wh (cG wh T) f len)) (hN : N = cwN q L f len (cF wh (cG wh T) f len)) :
    Calls Try.prog 10 #[.slice A n c, .slice B m d, .int .i64 e, .int .i64 q, .agg #[.int .i64 wh, vu f, vu len, sv T]] w fun e w' => e = .returned (.bool true) ∧ Below w.heap.size w w' := by
  have HWhy : Hid (∀ W, Below w.heap.size w W → Calls Try.prog 21 #[.slice A n c, .agg #[vu f, vu len]] W fun e w' => e = .returned (.int .i64 (cWhy L f len)) ∧ Below W.heap.size W w') := Lib.hid fun W hb => nrwhy_any A n c f len L W (hA.later hb) hl hn hf hlen
  by_cases hy : cWhy L f len = 0
  · obtain ⟨hR, h1, h2, h3⟩ := cWhy_ok.1 hy
    have HDo : Hid (∀ W, Below w.heap.size w W → Calls Try.prog 22 #[.slice A n c, .agg #[.int .i64 wh, vu f, vu len, sv T]] W fun e w' => ∃ B d, e = .returned (.slice B (cdo L (cF wh (cG wh T) f len) (f / 32) (mK f len)).length d) ∧ CR w' B (cdo L (cF wh (cG wh T) f len) (f / 32) (mK f len)) ∧ Below W.heap.size W w') := Lib.hid fun W hb => nrdo_any A n c f len wh T L W (hA.later hb) hl hR h1 h2 h3 hw hT
    rw [hy] at HWhy
    have hc : cNow L f len (cF wh (cG wh T) f len) = cdo L (cF wh (cG wh T) f len) (f / 32) (mK f len) := cNow_yes hy
    have hz6 : (cdo L (cF wh (cG wh T) f len) (f / 32) (mK f len)).length ≤ 65536 := by
      have := cNow_len (L := L) (f := f) (len := len) (F := cF wh (cG wh T) f len) (cF_n _ _ _ _)
      rw [hc] at this; omega
    have he2 : e = if cFit q L (cdo L (cF wh (cG wh T) f len) (f / 32) (mK f len)) then 0 else 6 := by
      rw [he, cwE, if_neg (fun h => h hy), hc]
    have hN2 : N = if cFit q L (cdo L (cF wh (cG wh T) f len) (f / 32) (mK f len)) then cdo L (cF wh (cG wh T) f len) (f / 32) (mK f len) else [] := by
      rw [hN, cwN, ← he, he2]
      by_cases h : cFit q L (cdo L (cF wh (cG wh T) f len) (f / 32) (mK f len))
      · rw [if_pos h, if_pos h, if_pos rfl, hc]
      · rw [if_neg h, if_neg h, if_neg (by decide)]
    clear he hN hc hy hR h1 h2 h3 hf hlen hw hT
    generalize cdo L (cF wh (cG wh T) f len) (f / 32) (mK f len) = Z at *
    have HB := Lib.hid hB
    by_cases hfit : cFit q L Z
    · rw [if_pos hfit] at he2 hN2
      subst hN2
      have HFits : Hid (∀ W B2 d2, Calls Try.prog 23 #[.slice A n c, .slice B2 N.length d2, .int .i64 q] W fun e w' => e = .returned (.bool true) ∧ Below W.heap.size W w') := Lib.hid fun W B2 d2 => by
        have h := nrfits_any A B2 n c N.length d2 q W
        rwa [decide_eq_true (by rw [← hl]; exact hfit)] at h
      have HSame : Hid (∀ W B2 d2, Below w.heap.size w W → CR W B2 N → Calls Try.prog 24 #[.slice B m d, .slice B2 N.length d2] W fun e w' => e = .returned (.bool true) ∧ Below W.heap.size W w') := Lib.hid fun W B2 d2 hb hr => by
        have h := nrsame_any B B2 d d2 m N.length N N W (HB.out.later hb) hr hm rfl hm6 hz6
        rwa [decide_eq_true rfl] at h
      clear hA hl hB hm hfit hz6
      subst he2
      go_enter Try.func10, Try.ntmps10
      go_wp2_with fail
      refine (HWhy.out _ (ba (Below.refl _ _) _)).mono ?_
      rintro e w1 ⟨rfl, hb1⟩
      have C1 : Hid (Blk w1 w.heap.size 34 #[.int .i64 wh, vu f, vu len, sv T]) := Lib.hid ((Blk.new w _ _).below hb1)
      have HB1 := Lib.hid (bt (ba (Below.refl w.heap.size w) _) hb1)
      clear hb1
      obtain ⟨q0, r0⟩ := C1.out.at_ (i := 0) (v := .int .i64 wh) rfl
      obtain ⟨q1, r1⟩ := C1.out.at_ (i := 1) (v := vu f) rfl
      obtain ⟨q2, r2⟩ := C1.out.at_ (i := 2) (v := vu len) rfl
      obtain ⟨q3, r3⟩ := C1.out.at_ (i := 3) (v := sv T) rfl
      go_wp2_with fail
      refine (HDo.out _ HB1.out).mono ?_
      rintro e w2 ⟨B2, d2, rfl, hr2, hb2⟩
      have HR2 := Lib.hid hr2
      have HB2 := Lib.hid (bt HB1.out hb2)
      clear hr2 hb2
      go_wp2_with fail
      refine (HFits.out _ _ _).mono ?_
      rintro e w3 ⟨rfl, hb3⟩
      have HS3 := Lib.hid (HSame.out w3 B2 d2 (bt HB2.out hb3) (HR2.out.later hb3))
      have HB3 := Lib.hid (bt HB2.out hb3)
      clear hb3
      go_wp2_with fail
      refine HS3.out.mono ?_
      rintro e w4 ⟨rfl, hb4⟩
      have HB4 := Lib.hid (bt HB3.out hb4)
      clear hb4
      go_wp2
      go_ret
      exact ⟨rfl, HB4.out⟩
    · rw [if_neg hfit] at he2 hN2
      have HFits : Hid (∀ W B2 d2, Calls Try.prog 23 #[.slice A n c, .slice B2 Z.length d2, .int .i64 q] W fun e w' => e = .returned (.bool false) ∧ Below W.heap.size W w') := Lib.hid fun W B2 d2 => by
        have h := nrfits_any A B2 n c Z.length d2 q W
        rwa [decide_eq_false (by rw [← hl]; exact hfit)] at h
      have hm0 : m = 0 := by rw [← hm, hN2]; rfl
      clear hA hl hB hm hfit hz6 hN2
      subst he2
      subst hm0
      go_enter Try.func10, Try.ntmps10
      go_wp2_with fail
      refine (HWhy.out _ (ba (Below.refl _ _) _)).mono ?_
      rintro e w1 ⟨rfl, hb1⟩
      have C1 : Hid (Blk w1 w.heap.size 34 #[.int .i64 wh, vu f, vu len, sv T]) := Lib.hid ((Blk.new w _ _).below hb1)
      have HB1 := Lib.hid (bt (ba (Below.refl w.heap.size w) _) hb1)
      clear hb1
      obtain ⟨q0, r0⟩ := C1.out.at_ (i := 0) (v := .int .i64 wh) rfl
      obtain ⟨q1, r1⟩ := C1.out.at_ (i := 1) (v := vu f) rfl
      obtain ⟨q2, r2⟩ := C1.out.at_ (i := 2) (v := vu len) rfl
      obtain ⟨q3, r3⟩ := C1.out.at_ (i := 3) (v := sv T) rfl
      go_wp2_with fail
      refine (HDo.out _ HB1.out).mono ?_
      rintro e w2 ⟨B2, d2, rfl, hr2, hb2⟩
      have HB2 := Lib.hid (bt HB1.out hb2)
      clear hr2 hb2
      go_wp2_with fail
      refine (HFits.out _ _ _).mono ?_
      rintro e w3 ⟨rfl, hb3⟩
      have HB3 := Lib.hid (bt HB2.out hb3)
      clear hb3
      go_wp2
      go_ret
      exact ⟨rfl, HB3.out⟩
  · have he2 : e = cWhy L f len := by rw [he, cwE, if_pos hy]
    have hm0 : m = 0 := by rw [← hm, hN, cwN, ← he, he2, if_neg hy]; rfl
    generalize cWhy L f len = Y at *
    clear he hN hA hl hB hm hm6 hf hlen hw hT
    subst he2
    subst hm0
    have hy1 : (e != 0) = true := by simpa using hy
    have hy2 : (e == 0) = false := by simpa using hy
    have hy3 : decide (e = 0) = false := decide_eq_false hy
    go_enter Try.func10, Try.ntmps10
    go_wp2_with fail
    refine (HWhy.out _ (ba (Below.refl _ _) _)).mono ?_
    rintro e w1 ⟨rfl, hb1⟩
    have HB1 := Lib.hid (bt (ba (Below.refl w.heap.size w) _) hb1)
    clear hb1
    go_wp2
    go_ret
    exact ⟨rfl, HB1.out⟩
end Go.Proofs.Ytbecambkjmheiaa
/- (without WriteByte) strings.Builder's methods, as they stand in this program: the numbers under which the library's contracts find them. -/
namespace Go.Proofs.Ytbecambkjmheiaa
open Go.Shelf Go.RowKit
def bldRen : Go.Shelf.Ren := ⟨fun | 165 => 40 | 166 => 32 | 169 => 36 | 170 => 41 | 240 => 53 | 241 => 58 | 276 => 69 | 277 => 73 | n => n, fun | 0 => 0 | 3 => 3 | 4 => 4 | 5 => 5 | 9 => 9 | 20 => 20 | 37 => 56 | 70 => 55 | 72 => 58 | 75 => 63 | 80 => 69 | 127 => 88 | 164 => 105 | n => n, fun | n => n⟩
theorem bldLays170 : Go.Proofs.Lays.n170 Try.prog bldRen := {
  mixed := by kernel_rfl
  f170 := Try.func41.trans (congrArg some (by kernel_rfl))
  t0 := Try.underlying0
  a0 := Try.isAgg0
  z0 := Try.sizeOf0
  v0 := Try.zeroValue0
  t3 := Try.underlying3
  a3 := Try.isAgg3
  z3 := Try.sizeOf3
  v3 := Try.zeroValue3
  t37 := Try.underlying56
  a37 := Try.isAgg56
  z37 := Try.sizeOf56
  v37 := Try.zeroValue56
  t70 := Try.underlying55
  a70 := Try.isAgg55
  z70 := Try.sizeOf55
  v70 := Try.zeroValue55
  t72 := Try.underlying58
  a72 := Try.isAgg58
  z72 := Try.sizeOf58
  v72 := Try.zeroValue58 }
theorem bldLays169 : Go.Proofs.Lays.n169 Try.prog bldRen := {
  mixed := by kernel_rfl
  f169 := Try.func36.trans (congrArg some (by kernel_rfl))
  t0 := Try.underlying0
  a0 := Try.isAgg0
  z0 := Try.sizeOf0
  v0 := Try.zeroValue0
  t3 := Try.underlying3
  a3 := Try.isAgg3
  z3 := Try.sizeOf3
  v3 := Try.zeroValue3
  t9 := Try.underlying9
  a9 := Try.isAgg9
  z9 := Try.sizeOf9
  v9 := Try.zeroValue9
  t37 := Try.underlying56
  a37 := Try.isAgg56
  z37 := Try.sizeOf56
  v37 := Try.zeroValue56
  t70 := Try.underlying55
  a70 := Try.isAgg55
  z70 := Try.sizeOf55
  v70 := Try.zeroValue55
  t72 := Try.underlying58
  a72 := Try.isAgg58
  z72 := Try.sizeOf58
  v72 := Try.zeroValue58
  t127 := Try.underlying88
  a127 := Try.isAgg88
  z127 := Try.sizeOf88
  v127 := Try.zeroValue88 }
theorem bldLays165 : Go.Proofs.Lays.n165 Try.prog bldRen := {
  mixed := by kernel_rfl
  f165 := Try.func40.trans (congrArg some (by kernel_rfl))
  f240 := Try.func53.trans (congrArg some (by kernel_rfl))
  f241 := Try.func58.trans (congrArg some (by kernel_rfl))
  f276 := Try.func69.trans (congrArg some (by kernel_rfl))
  f277 := Try.func73.trans (congrArg some (by kernel_rfl))
  t0 := Try.underlying0
  a0 := Try.isAgg0
  z0 := Try.sizeOf0
  v0 := Try.zeroValue0
  t3 := Try.underlying3
  a3 := Try.isAgg3
  z3 := Try.sizeOf3
  v3 := Try.zeroValue3
  t4 := Try.underlying4
  a4 := Try.isAgg4
  z4 := Try.sizeOf4
  v4 := Try.zeroValue4
  t9 := Try.underlying9
  a9 := Try.isAgg9
  z9 := Try.sizeOf9
  v9 := Try.zeroValue9
  t20 := Try.underlying20
  a20 := Try.isAgg20
  z20 := Try.sizeOf20
  v20 := Try.zeroValue20
  t37 := Try.underlying56
  a37 := Try.isAgg56
  z37 := Try.sizeOf56
  v37 := Try.zeroValue56
  t70 := Try.underlying55
  a70 := Try.isAgg55
  z70 := Try.sizeOf55
  v70 := Try.zeroValue55
  t72 := Try.underlying58
  a72 := Try.isAgg58
  z72 := Try.sizeOf58
  v72 := Try.zeroValue58
  t164 := Try.underlying105
  a164 := Try.isAgg105
  z164 := Try.sizeOf105
  v164 := Try.zeroValue105 }
theorem bldLays166 : Go.Proofs.Lays.n166 Try.prog bldRen := {
  mixed := by kernel_rfl
  f166 := Try.func32.trans (congrArg some (by kernel_rfl))
  f240 := Try.func53.trans (congrArg some (by kernel_rfl))
  f276 := Try.func69.trans (congrArg some (by kernel_rfl))
  t0 := Try.underlying0
  a0 := Try.isAgg0
  z0 := Try.sizeOf0
  v0 := Try.zeroValue0
  t3 := Try.underlying3
  a3 := Try.isAgg3
  z3 := Try.sizeOf3
  v3 := Try.zeroValue3
  t4 := Try.underlying4
  a4 := Try.isAgg4
  z4 := Try.sizeOf4
  v4 := Try.zeroValue4
  t9 := Try.underlying9
  a9 := Try.isAgg9
  z9 := Try.sizeOf9
  v9 := Try.zeroValue9
  t20 := Try.underlying20
  a20 := Try.isAgg20
  z20 := Try.sizeOf20
  v20 := Try.zeroValue20
  t37 := Try.underlying56
  a37 := Try.isAgg56
  z37 := Try.sizeOf56
  v37 := Try.zeroValue56
  t70 := Try.underlying55
  a70 := Try.isAgg55
  z70 := Try.sizeOf55
  v70 := Try.zeroValue55
  t72 := Try.underlying58
  a72 := Try.isAgg58
  z72 := Try.sizeOf58
  v72 := Try.zeroValue58
  t75 := Try.underlying63
  a75 := Try.isAgg63
  z75 := Try.sizeOf63
  v75 := Try.zeroValue63
  t164 := Try.underlying105
  a164 := Try.isAgg105
  z164 := Try.sizeOf105
  v164 := Try.zeroValue105 }
theorem bldExtra : Builder.Extra Try.prog bldRen := {
  sizeBuilder := by kernel_rfl
  liesBuilder := by kernel_rfl
  t5 := Try.underlying5
  a5 := Try.isAgg5
  z5 := Try.sizeOf5
  v5 := Try.zeroValue5
  infoByte := by kernel_rfl
  cellsByte := by kernel_rfl
  sizeByte := by kernel_rfl
  neB5 := by decide }
/-- A builder that holds the bytes cs. -/
abbrev Bld (w : World) (B b : Nat) (cs : List Value) : Prop := Lib.IsBuilder 58 5 B b cs w
theorem bgrow_any (B b n : Nat) (w : World) (hB : B ≤ b) (hbk : w.heap[b]? = some (.cells #[.pointer none, .slice none 0 0] 58 (0, 0))) (hBw : B ≤ w.heap.size) (hn : n ≤ 281474976710656) :
    Calls Try.prog 40 #[.pointer (some ⟨b, 0, none⟩), .int .i64 (n : Int)] w fun e w' => e = .returned (.tuple #[]) ∧ Bld w' B b [] ∧ Below B w w' :=
  (Any.Builder_Grow_fresh bldLays165 bldExtra B b n w hB hbk hBw hn).mono fun _ _ ⟨h, k, l⟩ => ⟨h, .inr k, l⟩
theorem bstring_any (B b : Nat) (bs : List Value) (s : ByteArray) (w : World) (h : Bld w B b bs) (hlen : bs.length + s.size ≤ 140737488355328) (hBw : B ≤ w.heap.size) :
    Calls Try.prog 32 #[.pointer (some ⟨b, 0, none⟩), .string s] w fun e w' => e = .returned (.tuple #[.int .i64 s.size, .nilIface]) ∧ Bld w' B b (bs ++ Lib.strCells s) ∧ Below B w w' :=
  (Any.Builder_WriteString bldLays166 bldExtra B b bs s w h hlen hBw).mono fun _ _ ⟨h, k, l⟩ => ⟨h, .inr k, l⟩
theorem blen_any (B b : Nat) (bs : List Value) (w : World) (h : Bld w B b bs) :
    Calls Try.prog 41 #[.pointer (some ⟨b, 0, none⟩)] w fun e w' => e = .returned (.int .i64 (bs.length : Int)) ∧ w = w' :=
  (Any.Builder_Len bldLays170 B b bs w h).mono fun _ _ ⟨h, k⟩ => ⟨h, k.symm⟩
theorem btext_any (B b : Nat) (l : List UInt8) (w : World) (h : Bld w B b (Lib.byteCells l)) (hBw : B ≤ w.heap.size) :
    Calls Try.prog 36 #[.pointer (some ⟨b, 0, none⟩)] w fun e w' => e = .returned (.string ⟨l.toArray⟩) ∧ Below B w w' := Any.Builder_String_any bldLays169 bldExtra B b l w h hBw
theorem Bld.later {w w' : World} {B b : Nat} {cs : List Value} (h : Bld w B b cs) (hb : Below w.heap.size w w') : Bld w' B b cs := by
  have key : ∀ p, Lib.BuilderAt 58 5 B b p cs w → Lib.BuilderAt 58 5 B b p cs w' := by
    rintro p ⟨hB, v, hv, hown, hne⟩
    refine ⟨hB, v, (hb.block b (Array.getElem?_eq_some_iff.1 hv).1).trans hv, ?_, hne⟩
    obtain ⟨h1, h2⟩ := hown
    refine ⟨h1, ?_⟩
    rcases h2 with h2 | ⟨g, cap, cur, hv, hg, hh, r⟩
    · exact Or.inl h2
    · exact Or.inr ⟨g, cap, cur, hv, hg, (hb.block g (Array.getElem?_eq_some_iff.1 hh).1).trans hh, r⟩
  rcases h with h | h
  · exact .inl (key _ h)
  · exact .inr (key _ h)
end Go.Proofs.Ytbecambkjmheiaa
