/- Texts of this seat, one behind the other: ELawQ, EVMath. -/
import Derived.Test.YthimnpiiehggnaaQ10
import Derived.Test.YthimnpiiehggnaaQ11
import Derived.Test.YthimnpiiehggnaaQ13
import Derived.Test.YthimnpiiehggnaaQ14
import Derived.Test.YthimnpiiehggnaaQ16
/- ExtentQueries: the walk. -/
namespace Go.Proofs.Ythimnpiiehggnaa
open Go.RowKit

set_option maxRecDepth 100000 in
set_option maxHeartbeats 4000000 in
/-- The law behind few. -/
theorem equeries_in (A : Option Addr) (N n c : Nat) (L : List Rn) (f nn : Int) (w : World) (hc : N ≤ c) (hn : min N 66 = n) (hl : L.length = n) (hA : ER w A L) (hu : ∀ r ∈ L, EU r) (hf : 0 ≤ f ∧ f ≤ 18446744073709551615) (hnn : 0 ≤ nn ∧ nn ≤ 18446744073709551615) :
    Calls Try.prog 5 #[.slice A N c, .agg #[.int .u64 f, .int .u64 nn]] w fun e w' => e = .returned (.bool true) ∧ Below w.heap.size w w' := by
  have hn6 : n ≤ 66 := by omega
  have HF1 : Hid (∀ W, Below w.heap.size w W → Calls Try.prog 7 #[.slice A N c] W fun e w' => e = .returned (.slice A n c) ∧ Below W.heap.size W w') := Lib.hid fun W hb => (efew_any A N c W hc).mono fun e w' h => by rw [hn] at h; exact ⟨h.1, by rw [h.2]; exact Below.refl _ _⟩
  have HQ : Hid (∀ W, Below w.heap.size w W → Calls Try.prog 11 #[.slice A n c] W fun e w' => e = .returned (.bool (decide (ERt L))) ∧ Below W.heap.size W w') := Lib.hid fun W hb => erright_any A n c L W (hA.later hb) hl (by omega) hu
  have HV : Hid (∀ W, Below w.heap.size w W → Calls Try.prog 14 #[] W fun e w' => e = .returned (.bool true) ∧ Below W.heap.size W w') := Lib.hid fun W hb => ealive_any W
  have HSP : Hid (∀ W, Below w.heap.size w W → Calls Try.prog 18 #[.agg #[.int .u64 f, .int .u64 nn]] W fun e w' => e = .returned (.int .i64 (ewhy f nn)) ∧ Below W.heap.size W w') := Lib.hid fun W hb => erspan_any f nn W hf.1 hf.2 hnn.1 hnn.2
  by_cases hr : ERt L
  · rw [decide_eq_true hr] at HQ
    by_cases hw : ewhy f nn = 0
    · obtain ⟨k1, k2⟩ := (ewhy_ok f nn hnn.1).1 hw
      rw [hw] at HSP
      have HP : Hid (∀ W, Below w.heap.size w W → Calls Try.prog 20 #[.slice A n c, .agg #[.int .u64 f, .int .u64 nn]] W fun e w' => ∃ A' c', e = .returned (.tuple #[.slice A' (erquery L f nn).length c', .int .i64 0]) ∧ (erquery L f nn).length ≤ c' ∧ ER w' A' (erquery L f nn) ∧ Below W.heap.size W w') := Lib.hid fun W hb => by
        rw [← equery_is hr hf.1 k1 k2]
        exact equery_yes A n c L f nn W (hA.later hb) hl hu hr hf.1 k1 k2
      have HRP : Hid (∀ W, Below w.heap.size w W → Calls Try.prog 21 #[.slice A n c, .agg #[.int .u64 f, .int .u64 nn]] W (EROut W (erquery L f nn))) := Lib.hid fun W hb => erquery_any A n c L f nn W (hA.later hb) hl (by have := hr.1; omega) (fun r h => by have := hr.ok r h; exact ⟨this.1, this.2.1, this.2.2.1⟩) hf.1 k1 k2
      have HLN : Hid ((erquery L f nn).length ≤ 4096) := Lib.hid (by have := estates_len L 576460752303423488 1 0 f (f + nn); have := hr.1; unfold erquery; omega)
      generalize erquery L f nn = R at HRP HP HLN
      clear hA hl hu hr hn hc hw
      go_enter Try.func5, Try.ntmps5
      go_wp2_with fail
      refine (HF1.out _ (ba (Below.refl w.heap.size w) _)).mono ?_
      rintro e w1 ⟨rfl, h1⟩
      have HB1 := Lib.hid (bt (ba (Below.refl w.heap.size w) _) h1)
      have HK1 := Lib.hid ((Blk.new w 37 #[.int .u64 f, .int .u64 nn]).below h1)
      have q0 : w1.cell? ⟨w.heap.size, 0, none⟩ = some (.int .u64 f) := HK1.out.cell 0
      have q1 : w1.cell? ⟨w.heap.size, 1, none⟩ = some (.int .u64 nn) := HK1.out.cell 1
      clear h1
      go_wp2_with fail
      refine (HP.out _ HB1.out).mono ?_
      rintro e w2 ⟨A2, c2, rfl, hc2, hr2, h2⟩
      have HB2 := Lib.hid (bt HB1.out h2)
      have HK2 := Lib.hid (HK1.out.below h2)
      have HR2 := Lib.hid hr2
      replace q0 : w2.cell? ⟨w.heap.size, 0, none⟩ = some (.int .u64 f) := HK2.out.cell 0
      replace q1 : w2.cell? ⟨w.heap.size, 1, none⟩ = some (.int .u64 nn) := HK2.out.cell 1
      clear h2 hr2 HP
      go_wp2_with fail
      refine (HSP.out _ HB2.out).mono ?_
      rintro e w3 ⟨rfl, h3⟩
      have HB3 := Lib.hid (bt HB2.out h3)
      have HK3 := Lib.hid (HK2.out.below h3)
      have HR3 := Lib.hid (HR2.out.later h3)
      replace q0 : w3.cell? ⟨w.heap.size, 0, none⟩ = some (.int .u64 f) := HK3.out.cell 0
      replace q1 : w3.cell? ⟨w.heap.size, 1, none⟩ = some (.int .u64 nn) := HK3.out.cell 1
      clear h3
      go_wp2_with fail
      refine (HQ.out _ HB3.out).mono ?_
      rintro e w4 ⟨rfl, h4⟩
      have HB4 := Lib.hid (bt HB3.out h4)
      have HK4 := Lib.hid (HK3.out.below h4)
      have HR4 := Lib.hid (HR3.out.later h4)
      replace q0 : w4.cell? ⟨w.heap.size, 0, none⟩ = some (.int .u64 f) := HK4.out.cell 0
      replace q1 : w4.cell? ⟨w.heap.size, 1, none⟩ = some (.int .u64 nn) := HK4.out.cell 1
      clear h4
      go_wp2_with fail
      refine (HV.out _ HB4.out).mono ?_
      rintro e w5 ⟨rfl, h5⟩
      have HB5 := Lib.hid (bt HB4.out h5)
      have HK5 := Lib.hid (HK4.out.below h5)
      have HR5 := Lib.hid (HR4.out.later h5)
      replace q0 : w5.cell? ⟨w.heap.size, 0, none⟩ = some (.int .u64 f) := HK5.out.cell 0
      replace q1 : w5.cell? ⟨w.heap.size, 1, none⟩ = some (.int .u64 nn) := HK5.out.cell 1
      clear h5
      go_wp2_with fail
      refine (HRP.out _ HB5.out).mono ?_
      rintro e w6 ⟨A6, c6, rfl, hr6, h6, _⟩
      have HB6 := Lib.hid (bt HB5.out h6)
      have HSA : Hid (Calls Try.prog 13 #[.slice A2 R.length c2, .slice A6 R.length c6] w6 fun e w' => e = .returned (.bool true) ∧ Below w6.heap.size w6 w') := Lib.hid ((ersame_any A2 A6 c2 c6 R.length R.length R R w6 (HR5.out.later h6) hr6 rfl rfl (by have := HLN.out; omega) (by have := HLN.out; omega)).mono fun e w' h => by simpa using h)
      clear h6 hr6
      go_wp2_with fail
      refine (HSA.out).mono ?_
      rintro e w7 ⟨rfl, h7⟩
      have HB7 := Lib.hid (bt HB6.out h7)
      clear h7
      go_wp2
      go_ret
      exact ⟨rfl, HB7.out⟩
    · have HP : Hid (∀ W, Below w.heap.size w W → Calls Try.prog 20 #[.slice A n c, .agg #[.int .u64 f, .int .u64 nn]] W fun e w' => e = .returned (.tuple #[.slice none 0 0, .int .i64 (ewhy f nn)]) ∧ Below W.heap.size W w') := Lib.hid fun W hb => equery_bad A n c L f nn W (hA.later hb) hl (by omega) hu hr hf.1 hf.2 hnn.1 hnn.2 hw
      generalize ewhy f nn = y at HP HSP hw
      have y1 : (y != 0) = true := by simpa using hw
      have y2 : (y == 0) = false := by simpa using hw
      clear hA hl hu hr hn hc hw
      go_enter Try.func5, Try.ntmps5
      go_wp2_with fail
      refine (HF1.out _ (ba (Below.refl w.heap.size w) _)).mono ?_
      rintro e w1 ⟨rfl, h1⟩
      have HB1 := Lib.hid (bt (ba (Below.refl w.heap.size w) _) h1)
      have q0 : w1.cell? ⟨w.heap.size, 0, none⟩ = some (.int .u64 f) := ((Blk.new w 37 #[.int .u64 f, .int .u64 nn]).below h1).cell 0
      have q1 : w1.cell? ⟨w.heap.size, 1, none⟩ = some (.int .u64 nn) := ((Blk.new w 37 #[.int .u64 f, .int .u64 nn]).below h1).cell 1
      clear h1
      go_wp2_with fail
      refine (HP.out _ HB1.out).mono ?_
      rintro e w2 ⟨rfl, h2⟩
      have HB2 := Lib.hid (bt HB1.out h2)
      replace q0 := ecell h2 q0
      replace q1 := ecell h2 q1
      clear h2
      go_wp2_with fail
      refine (HSP.out _ HB2.out).mono ?_
      rintro e w3 ⟨rfl, h3⟩
      have HB3 := Lib.hid (bt HB2.out h3)
      replace q0 := ecell h3 q0
      replace q1 := ecell h3 q1
      clear h3
      go_wp2_with fail
      refine (HQ.out _ HB3.out).mono ?_
      rintro e w4 ⟨rfl, h4⟩
      have HB4 := Lib.hid (bt HB3.out h4)
      replace q0 := ecell h4 q0
      replace q1 := ecell h4 q1
      clear h4
      go_wp2_with fail
      refine (HV.out _ HB4.out).mono ?_
      rintro e w5 ⟨rfl, h5⟩
      have HB5 := Lib.hid (bt HB4.out h5)
      replace q0 := ecell h5 q0
      replace q1 := ecell h5 q1
      clear h5
      go_wp2
      go_ret
      exact ⟨rfl, HB5.out⟩
  · have HP : Hid (∀ W, Below w.heap.size w W → Calls Try.prog 20 #[.slice A n c, .agg #[.int .u64 f, .int .u64 nn]] W fun e w' => e = .returned (.tuple #[.slice none 0 0, .int .i64 1]) ∧ Below W.heap.size W w') := Lib.hid fun W hb => equery_arg A n c L f nn W (hA.later hb) hl (by omega) hu hr
    generalize ewhy f nn = y at HSP
    rw [decide_eq_false hr] at HQ
    clear hA hl hu hr hn hc
    go_enter Try.func5, Try.ntmps5
    go_wp2_with fail
    refine (HF1.out _ (ba (Below.refl w.heap.size w) _)).mono ?_
    rintro e w1 ⟨rfl, h1⟩
    have HB1 := Lib.hid (bt (ba (Below.refl w.heap.size w) _) h1)
    have q0 : w1.cell? ⟨w.heap.size, 0, none⟩ = some (.int .u64 f) := ((Blk.new w 37 #[.int .u64 f, .int .u64 nn]).below h1).cell 0
    have q1 : w1.cell? ⟨w.heap.size, 1, none⟩ = some (.int .u64 nn) := ((Blk.new w 37 #[.int .u64 f, .int .u64 nn]).below h1).cell 1
    clear h1
    go_wp2_with fail
    refine (HP.out _ HB1.out).mono ?_
    rintro e w2 ⟨rfl, h2⟩
    have HB2 := Lib.hid (bt HB1.out h2)
    replace q0 := ecell h2 q0
    replace q1 := ecell h2 q1
    clear h2
    go_wp2_with fail
    refine (HSP.out _ HB2.out).mono ?_
    rintro e w3 ⟨rfl, h3⟩
    have HB3 := Lib.hid (bt HB2.out h3)
    replace q0 := ecell h3 q0
    replace q1 := ecell h3 q1
    clear h3
    go_wp2_with fail
    refine (HQ.out _ HB3.out).mono ?_
    rintro e w4 ⟨rfl, h4⟩
    have HB4 := Lib.hid (bt HB3.out h4)
    replace q0 := ecell h4 q0
    replace q1 := ecell h4 q1
    clear h4
    go_wp2_with fail
    refine (HV.out _ HB4.out).mono ?_
    rintro e w5 ⟨rfl, h5⟩
    have HB5 := Lib.hid (bt HB4.out h5)
    replace q0 := ecell h5 q0
    replace q1 := ecell h5 q1
    clear h5
    go_wp2
    go_ret
    exact ⟨rfl, HB5.out⟩
theorem equerieslaw_any (A : Option Addr) (c : Nat) (L : List Rn) (f nn : Int) (w : World) (hc : L.length ≤ c) (hA : ER w A L) (hu : ∀ r ∈ L, EU r) (hf : 0 ≤ f ∧ f ≤ 18446744073709551615) (hnn : 0 ≤ nn ∧ nn ≤ 18446744073709551615) :
    Calls Try.prog 5 #[.slice A L.length c, .agg #[.int .u64 f, .int .u64 nn]] w fun e w' => e = .returned (.bool true) ∧ Below w.heap.size w w' :=
  equeries_in A L.length _ c (L.take 66) f nn w hc rfl (by rw [List.length_take, Nat.min_comm]) (hA.take 66) (fun r hr => hu r (List.mem_of_mem_take hr)) hf hnn
end Go.Proofs.Ythimnpiiehggnaa
/- What was put stays, in plain lists; a span's runs lie side by side. -/
namespace Go.Proofs.Ythimnpiiehggnaa

theorem eputs_at {L J : List Rn} {f n s : Int} (h : EPuts L f n s J) (hz : ∀ r ∈ J, r.s ≠ 0) (x : Int) : eAt J x = enew L f n s x := by
  by_cases h0 : enew L f n s x = 0
  · by_cases h1 : eAt J x = 0
    · rw [h0, h1]
    · exact ((h.2 x _).1 (eat_in h1)).1
  · exact ((ein_at h.1 hz x _).1 ((h.2 x _).2 ⟨rfl, h0⟩)).1
theorem eputs_again {L J : List Rn} {f n s : Int} (h : EPuts L f n s J) (hz : ∀ r ∈ J, r.s ≠ 0) : EPuts J f n s J := by
  refine ⟨h.1, fun x t => ?_⟩
  have e : enew J f n s x = enew L f n s x := by
    have h1 := eputs_at h hz x
    unfold enew at h1 ⊢
    split
    · rfl
    · rename_i k
      rw [if_neg k] at h1
      exact h1
  rw [e]
  exact h.2 x t
/-- Side by side from one place to another one. -/
def ETile : Int → List Rn → Int → Prop
  | a, [], b => a = b
  | a, r :: L, b => r.f = a ∧ 1 ≤ r.n ∧ ETile (a + r.n) L b
theorem etile_of {L : List Rn} : ∀ {a p a0 b : Int}, EC a0 p L → (∀ x, (∃ t, EIn L x t) ↔ a ≤ x ∧ x < b) → a ≤ b → ETile a L b := by
  induction L with
  | nil =>
    intro a p a0 b _ h hab
    show a = b
    rcases Int.lt_or_le a b with k | k
    · obtain ⟨t, ht⟩ := (h a).2 ⟨Int.le_refl _, k⟩
      exact absurd ht ein_nil
    · omega
  | cons r L ih =>
    intro a p a0 b h hc hab
    obtain ⟨h1, h2, h3⟩ := h
    have c1 := (hc r.f).1 ⟨r.s, ein_cons.2 (.inl ⟨Int.le_refl _, by omega, rfl⟩)⟩
    have c2 := (hc (r.f + r.n - 1)).1 ⟨r.s, ein_cons.2 (.inl ⟨by omega, by omega, rfl⟩)⟩
    have e : r.f = a := by
      obtain ⟨t, ht⟩ := (hc a).2 ⟨Int.le_refl _, by omega⟩
      rcases ein_cons.1 ht with k | k
      · omega
      · have := ec_in_lo h3 k; omega
    refine ⟨e, h2, ih (a0 := r.f + r.n) (p := r.s) h3 (fun x => ?_) (by omega)⟩
    constructor
    · rintro ⟨t, ht⟩
      have := ec_in_lo h3 ht
      have := (hc x).1 ⟨t, ein_cons.2 (.inr ht)⟩
      omega
    · intro hx
      obtain ⟨t, ht⟩ := (hc x).2 (by omega)
      rcases ein_cons.1 ht with k | k
      · omega
      · exact ⟨t, k⟩
theorem etile_last {L : List Rn} : ∀ {a b : Int}, ETile a L b → a ≤ b := by
  induction L with
  | nil => intro a b h; exact Int.le_of_eq h
  | cons r L ih => intro a b h; have := ih h.2.2; have := h.2.1; omega
theorem etile_touch {L : List Rn} : ∀ {a b : Int}, ETile a L b → ∀ j, j < L.length → 0 < j → (L.getD (j - 1) default).f + (L.getD (j - 1) default).n = (L.getD j default).f := by
  induction L with
  | nil => intro a b _ j hj; simp at hj
  | cons r L ih =>
    intro a b h j hj h0
    obtain ⟨h1, h2, h3⟩ := h
    obtain ⟨i, rfl⟩ : ∃ i, j = i + 1 := ⟨j - 1, by omega⟩
    rw [Nat.add_sub_cancel, List.getD_cons_succ]
    cases i with
    | zero =>
      cases L with
      | nil => simp at hj
      | cons q L =>
        have := h3.1
        simp only [List.getD_cons_zero]
        omega
    | succ i =>
      rw [List.getD_cons_succ]
      have := ih h3 (i + 1) (by simpa using hj) (by omega)
      rwa [Nat.add_sub_cancel] at this
theorem ecut_tile {L : List Rn} {f n : Int} (hL : ERt L) (f0 : 0 ≤ f) (n0 : 1 ≤ n) (fn : f + n ≤ 576460752303423488) : ETile f (ecut f n (eevery 0 L)) (f + n) := by
  have hc := ecut_good hL f0 fn
  refine etile_of hc.1 (fun x => ?_) (by omega)
  constructor
  · rintro ⟨t, ht⟩
    have := (hc.2 x t).1 ht
    omega
  · intro hx
    exact ⟨eAt L x, (hc.2 x _).2 ⟨hx.1, hx.2, rfl⟩⟩
theorem ecut_apart {L : List Rn} {f n : Int} (hL : ERt L) (f0 : 0 ≤ f) (n0 : 1 ≤ n) (fn : f + n ≤ 576460752303423488) : ∀ j, j < (ecut f n (eevery 0 L)).length → 0 < j → ((ecut f n (eevery 0 L)).getD (j - 1) default).s ≠ ((ecut f n (eevery 0 L)).getD j default).s := fun j hj h0 => by
  have h1 := etile_touch (ecut_tile hL f0 n0 fn) j hj h0
  have h2 := ec_fol (ecut_good hL f0 fn).1 j hj h0
  rcases h2 with h2 | h2
  · omega
  · exact h2.2
theorem ecut_all {L J : List Rn} {f n s : Int} (h : EPuts L f n s J) (hJ : ERt J) (f0 : 0 ≤ f) (n0 : 1 ≤ n) (fn : f + n ≤ 576460752303423488) : ecut f n (eevery 0 J) = [⟨f, n, s⟩] := by
  have hc := ecut_good hJ f0 fn
  have hz : ∀ r ∈ J, r.s ≠ 0 := fun r hr => by have := (hJ.ok r hr).2.2.2; omega
  refine ec_uniq (b := -1) (q := 0) hc.1 ⟨.inl (by show -1 < f; omega), n0, trivial⟩ (fun x t => ?_)
  rw [hc.2, ein_one, eputs_at h hz]
  simp only
  constructor
  · rintro ⟨h1, h2, h3⟩
    unfold enew at h3
    rw [if_pos ⟨h1, h2⟩] at h3
    exact ⟨h1, h2, h3.symm⟩
  · rintro ⟨h1, h2, h3⟩
    refine ⟨h1, h2, ?_⟩
    unfold enew
    rw [if_pos ⟨h1, h2⟩]
    exact h3.symm
end Go.Proofs.Ythimnpiiehggnaa
