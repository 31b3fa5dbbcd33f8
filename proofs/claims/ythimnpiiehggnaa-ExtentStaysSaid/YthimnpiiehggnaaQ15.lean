/- Texts of this seat, one behind the other: ELawP, EEvery. -/
import Derived.Test.YthimnpiiehggnaaQ02
import Derived.Test.YthimnpiiehggnaaQ06
import Derived.Test.YthimnpiiehggnaaQ10
import Derived.Test.YthimnpiiehggnaaQ11
import Derived.Test.YthimnpiiehggnaaQ14
/- ExtentPuts: the walk. -/
namespace Go.Proofs.Ythimnpiiehggnaa
open Go.RowKit

set_option maxRecDepth 100000 in
set_option maxHeartbeats 4000000 in
/-- The law behind few. -/
theorem eputs_in (A : Option Addr) (N n c : Nat) (L : List Rn) (f nn s : Int) (w : World) (hc : N ≤ c) (hn : min N 66 = n) (hl : L.length = n) (hA : ER w A L) (hu : ∀ r ∈ L, EU r) (hf : 0 ≤ f ∧ f ≤ 18446744073709551615) (hnn : 0 ≤ nn ∧ nn ≤ 18446744073709551615) :
    Calls Try.prog 4 #[.slice A N c, .agg #[.int .u64 f, .int .u64 nn], .int .i64 s] w fun e w' => e = .returned (.bool true) ∧ Below w.heap.size w w' := by
  have hn6 : n ≤ 66 := by omega
  have HF1 : Hid (∀ W, Below w.heap.size w W → Calls Try.prog 7 #[.slice A N c] W fun e w' => e = .returned (.slice A n c) ∧ Below W.heap.size W w') := Lib.hid fun W hb => (efew_any A N c W hc).mono fun e w' h => by rw [hn] at h; exact ⟨h.1, by rw [h.2]; exact Below.refl _ _⟩
  have HQ : Hid (∀ W, Below w.heap.size w W → Calls Try.prog 11 #[.slice A n c] W fun e w' => e = .returned (.bool (decide (ERt L))) ∧ Below W.heap.size W w') := Lib.hid fun W hb => erright_any A n c L W (hA.later hb) hl (by omega) hu
  have HV : Hid (∀ W, Below w.heap.size w W → Calls Try.prog 14 #[] W fun e w' => e = .returned (.bool true) ∧ Below W.heap.size W w') := Lib.hid fun W hb => ealive_any W
  have HSP : Hid (∀ W, Below w.heap.size w W → Calls Try.prog 18 #[.agg #[.int .u64 f, .int .u64 nn]] W fun e w' => e = .returned (.int .i64 (ewhy f nn)) ∧ Below W.heap.size W w') := Lib.hid fun W hb => erspan_any f nn W hf.1 hf.2 hnn.1 hnn.2
  by_cases hrs : ERt L ∧ ESt s
  · obtain ⟨hr, hs⟩ := hrs
    rw [decide_eq_true hr] at HQ
    have s0 : decide (s < 0) = false := by unfold ESt at hs; simp; omega
    have s2 : decide (2 < s) = false := by unfold ESt at hs; simp; omega
    by_cases hw : ewhy f nn = 0
    · obtain ⟨k1, k2⟩ := (ewhy_ok f nn hnn.1).1 hw
      rw [hw] at HSP
      have HP : Hid (∀ W, Below w.heap.size w W → Calls Try.prog 17 #[.slice A n c, .agg #[.int .u64 f, .int .u64 nn], .int .i64 s] W fun e w' => ∃ J, EPuts L f nn s J ∧ Below W.heap.size W w' ∧ ((64 < J.length ∧ e = .returned (.tuple #[.slice none 0 0, .int .i64 6])) ∨ (J.length ≤ 64 ∧ ∃ A' c', e = .returned (.tuple #[.slice A' J.length c', .int .i64 0]) ∧ J.length ≤ c' ∧ ER w' A' J))) := Lib.hid fun W hb => eput_yes A n c L f nn s W (hA.later hb) hl hu hr hs hf.1 k1 k2
      have HRP : Hid (∀ W, Below w.heap.size w W → Calls Try.prog 19 #[.slice A n c, .agg #[.int .u64 f, .int .u64 nn], .int .i64 s] W (EROut W (erput L f nn s))) := Lib.hid fun W hb => erput_any A n c L f nn s W (hA.later hb) hl (by have := hr.1; omega) (fun r h => by have := hr.ok r h; exact ⟨this.1, this.2.1, this.2.2.1⟩) hf.1 (by omega) (by omega)
      have HJ : Hid (∀ J, EPuts L f nn s J → J = erput L f nn s) := Lib.hid fun J h => eputs_is h hr hf.1 k2
      have HLN : Hid ((erput L f nn s).length ≤ 4096) := Lib.hid (by have h1 : (erput L f nn s).length ≤ (estates L f nn s 0 576460752303423488).length := List.length_filter_le _ _; have := estates_len L f nn s 0 576460752303423488; have := hr.1; omega)
      generalize erput L f nn s = R at HRP HJ HLN
      clear hA hl hu hr hn hc hw hs
      go_enter Try.func4, Try.ntmps4
      go_wp2_with fail
      refine (HF1.out _ (ba (Below.refl w.heap.size w) _)).mono ?_
      rintro e w1 ⟨rfl, h1⟩
      have HB1 := Lib.hid (bt (ba (Below.refl w.heap.size w) _) h1)
      have HK1 := Lib.hid ((Blk.new w 37 #[.int .u64 f, .int .u64 nn]).below h1)
      have q0 : w1.cell? ⟨w.heap.size, 0, none⟩ = some (.int .u64 f) := HK1.out.cell 0
      have q1 : w1.cell? ⟨w.heap.size, 1, none⟩ = some (.int .u64 nn) := HK1.out.cell 1
      clear h1
      go_wp2_with fail
      refine (HP.out _ HB1.out).mono ?_
      rintro e w2 ⟨J, hJ, h2, h3⟩
      obtain rfl : R = J := (HJ.out J hJ).symm
      have HB2 := Lib.hid (bt HB1.out h2)
      have HK2 := Lib.hid (HK1.out.below h2)
      replace q0 : w2.cell? ⟨w.heap.size, 0, none⟩ = some (.int .u64 f) := HK2.out.cell 0
      replace q1 : w2.cell? ⟨w.heap.size, 1, none⟩ = some (.int .u64 nn) := HK2.out.cell 1
      clear h2 hJ HJ HP
      rcases h3 with ⟨h64, rfl⟩ | ⟨h64, A2, c2, rfl, hc2, hr2⟩
      · have HL6 : Hid (64 < R.length) := Lib.hid h64
        clear h64
        go_wp2_with fail
        refine (HSP.out _ HB2.out).mono ?_
        rintro e w3 ⟨rfl, h3⟩
        have HB3 := Lib.hid (bt HB2.out h3)
        have HK3 := Lib.hid (HK2.out.below h3)
        replace q0 : w3.cell? ⟨w.heap.size, 0, none⟩ = some (.int .u64 f) := HK3.out.cell 0
        replace q1 : w3.cell? ⟨w.heap.size, 1, none⟩ = some (.int .u64 nn) := HK3.out.cell 1
        clear h3
        go_wp2_with fail
        refine (HQ.out _ HB3.out).mono ?_
        rintro e w4 ⟨rfl, h4⟩
        have HB4 := Lib.hid (bt HB3.out h4)
        have HK4 := Lib.hid (HK3.out.below h4)
        replace q0 : w4.cell? ⟨w.heap.size, 0, none⟩ = some (.int .u64 f) := HK4.out.cell 0
        replace q1 : w4.cell? ⟨w.heap.size, 1, none⟩ = some (.int .u64 nn) := HK4.out.cell 1
        clear h4
        go_wp2_with fail
        refine (HRP.out _ HB4.out).mono ?_
        rintro e w5 ⟨A5, c5, rfl, hr5, h5, _⟩
        have HB5 := Lib.hid (bt HB4.out h5)
        clear h5
        have g1 : (64 : Int) < (R.length : Int) := by have := HL6.out; omega
        go_wp2_with fail
        refine (HV.out _ HB5.out).mono ?_
        rintro e w6 ⟨rfl, h6⟩
        have HB6 := Lib.hid (bt HB5.out h6)
        clear h6
        go_wp2
        go_ret
        exact ⟨rfl, HB6.out⟩
      · have HL6 : Hid (R.length ≤ 64) := Lib.hid h64
        have HR2 := Lib.hid hr2
        clear h64
        go_wp2_with fail
        refine (HSP.out _ HB2.out).mono ?_
        rintro e w3 ⟨rfl, h3⟩
        have HB3 := Lib.hid (bt HB2.out h3)
        have HK3 := Lib.hid (HK2.out.below h3)
        replace q0 : w3.cell? ⟨w.heap.size, 0, none⟩ = some (.int .u64 f) := HK3.out.cell 0
        replace q1 : w3.cell? ⟨w.heap.size, 1, none⟩ = some (.int .u64 nn) := HK3.out.cell 1
        have HR3 := Lib.hid (HR2.out.later h3)
        clear h3
        go_wp2_with fail
        refine (HQ.out _ HB3.out).mono ?_
        rintro e w4 ⟨rfl, h4⟩
        have HB4 := Lib.hid (bt HB3.out h4)
        have HK4 := Lib.hid (HK3.out.below h4)
        replace q0 : w4.cell? ⟨w.heap.size, 0, none⟩ = some (.int .u64 f) := HK4.out.cell 0
        replace q1 : w4.cell? ⟨w.heap.size, 1, none⟩ = some (.int .u64 nn) := HK4.out.cell 1
        have HR4 := Lib.hid (HR3.out.later h4)
        clear h4
        go_wp2_with fail
        refine (HRP.out _ HB4.out).mono ?_
        rintro e w5 ⟨A5, c5, rfl, hr5, h5, _⟩
        have HB5 := Lib.hid (bt HB4.out h5)
        have HR5 := Lib.hid (HR4.out.later h5)
        have HW5 := Lib.hid hr5
        clear h5
        have g1 : decide ((64 : Int) < (R.length : Int)) = false := by have := HL6.out; simp; omega
        go_wp2_with fail
        refine (HV.out _ HB5.out).mono ?_
        rintro e w6 ⟨rfl, h6⟩
        have HB6 := Lib.hid (bt HB5.out h6)
        have HSA : Hid (Calls Try.prog 13 #[.slice A2 R.length c2, .slice A5 R.length c5] w6 fun e w' => e = .returned (.bool true) ∧ Below w6.heap.size w6 w') := Lib.hid ((ersame_any A2 A5 c2 c5 R.length R.length R R w6 (HR5.out.later h6) (HW5.out.later h6) rfl rfl (by have := HLN.out; omega) (by have := HLN.out; omega)).mono fun e w' h => by simpa using h)
        clear h6
        go_wp2_with fail
        refine (HSA.out).mono ?_
        rintro e w7 ⟨rfl, h7⟩
        have HB7 := Lib.hid (bt HB6.out h7)
        clear h7
        go_wp2
        go_ret
        exact ⟨rfl, HB7.out⟩
    · have HP : Hid (∀ W, Below w.heap.size w W → Calls Try.prog 17 #[.slice A n c, .agg #[.int .u64 f, .int .u64 nn], .int .i64 s] W fun e w' => e = .returned (.tuple #[.slice none 0 0, .int .i64 (ewhy f nn)]) ∧ Below W.heap.size W w') := Lib.hid fun W hb => eput_bad A n c L f nn s W (hA.later hb) hl (by omega) hu hr hs hf.1 hf.2 hnn.1 hnn.2 hw
      generalize ewhy f nn = y at HP HSP hw
      have y1 : (y != 0) = true := by simpa using hw
      have y2 : (y == 0) = false := by simpa using hw
      clear hA hl hu hr hn hc hw hs
      go_enter Try.func4, Try.ntmps4
      go_wp2_with fail
      refine (HF1.out _ (ba (Below.refl w.heap.size w) _)).mono ?_
      rintro e w1 ⟨rfl, h1⟩
      have HB1 := Lib.hid (bt (ba (Below.refl w.heap.size w) _) h1)
      have q0 : w1.cell? ⟨w.heap.size, 0, none⟩ = some (.int .u64 f) := ((Blk.new w 37 #[.int .u64 f, .int .u64 nn]).below h1).cell 0
      have q1 : w1.cell? ⟨w.heap.size, 1, none⟩ = some (.int .u64 nn) := ((Blk.new w 37 #[.int .u64 f, .int .u64 nn]).below h1).cell 1
      clear h1
      go_wp2_with fail
      refine (HP.out _ HB1.out).mono ?_
      rintro e w2 ⟨rfl, h2⟩
      have HB2 := Lib.hid (bt HB1.out h2)
      replace q0 := ecell h2 q0
      replace q1 := ecell h2 q1
      clear h2
      go_wp2_with fail
      refine (HSP.out _ HB2.out).mono ?_
      rintro e w3 ⟨rfl, h3⟩
      have HB3 := Lib.hid (bt HB2.out h3)
      replace q0 := ecell h3 q0
      replace q1 := ecell h3 q1
      clear h3
      go_wp2_with fail
      refine (HQ.out _ HB3.out).mono ?_
      rintro e w4 ⟨rfl, h4⟩
      have HB4 := Lib.hid (bt HB3.out h4)
      replace q0 := ecell h4 q0
      replace q1 := ecell h4 q1
      clear h4
      go_wp2_with fail
      refine (HV.out _ HB4.out).mono ?_
      rintro e w5 ⟨rfl, h5⟩
      have HB5 := Lib.hid (bt HB4.out h5)
      replace q0 := ecell h5 q0
      replace q1 := ecell h5 q1
      clear h5
      go_wp2
      go_ret
      exact ⟨rfl, HB5.out⟩
  · have HP : Hid (∀ W, Below w.heap.size w W → Calls Try.prog 17 #[.slice A n c, .agg #[.int .u64 f, .int .u64 nn], .int .i64 s] W fun e w' => e = .returned (.tuple #[.slice none 0 0, .int .i64 1]) ∧ Below W.heap.size W w') := Lib.hid fun W hb => eput_arg A n c L f nn s W (hA.later hb) hl (by omega) hu hrs
    generalize ewhy f nn = y at HSP
    by_cases hr : ERt L
    · have hs : ¬ ESt s := fun k => hrs ⟨hr, k⟩
      rw [decide_eq_true hr] at HQ
      by_cases hs0 : s < 0
      · clear hA hl hu hr hn hc hs hrs
        go_enter Try.func4, Try.ntmps4
        go_wp2_with fail
        refine (HF1.out _ (ba (Below.refl w.heap.size w) _)).mono ?_
        rintro e w1 ⟨rfl, h1⟩
        have HB1 := Lib.hid (bt (ba (Below.refl w.heap.size w) _) h1)
        have q0 : w1.cell? ⟨w.heap.size, 0, none⟩ = some (.int .u64 f) := ((Blk.new w 37 #[.int .u64 f, .int .u64 nn]).below h1).cell 0
        have q1 : w1.cell? ⟨w.heap.size, 1, none⟩ = some (.int .u64 nn) := ((Blk.new w 37 #[.int .u64 f, .int .u64 nn]).below h1).cell 1
        clear h1
        go_wp2_with fail
        refine (HP.out _ HB1.out).mono ?_
        rintro e w2 ⟨rfl, h2⟩
        have HB2 := Lib.hid (bt HB1.out h2)
        replace q0 := ecell h2 q0
        replace q1 := ecell h2 q1
        clear h2
        go_wp2_with fail
        refine (HSP.out _ HB2.out).mono ?_
        rintro e w3 ⟨rfl, h3⟩
        have HB3 := Lib.hid (bt HB2.out h3)
        replace q0 := ecell h3 q0
        replace q1 := ecell h3 q1
        clear h3
        go_wp2_with fail
        refine (HQ.out _ HB3.out).mono ?_
        rintro e w4 ⟨rfl, h4⟩
        have HB4 := Lib.hid (bt HB3.out h4)
        replace q0 := ecell h4 q0
        replace q1 := ecell h4 q1
        clear h4
        go_wp2_with fail
        refine (HV.out _ HB4.out).mono ?_
        rintro e w5 ⟨rfl, h5⟩
        have HB5 := Lib.hid (bt HB4.out h5)
        replace q0 := ecell h5 q0
        replace q1 := ecell h5 q1
        clear h5
        go_wp2
        go_ret
        exact ⟨rfl, HB5.out⟩
      · have s0 : decide (s < 0) = false := by simpa using hs0
        have s2 : 2 < s := by unfold ESt at hs; omega
        clear hA hl hu hr hn hc hs hrs hs0
        go_enter Try.func4, Try.ntmps4
        go_wp2_with fail
        refine (HF1.out _ (ba (Below.refl w.heap.size w) _)).mono ?_
        rintro e w1 ⟨rfl, h1⟩
        have HB1 := Lib.hid (bt (ba (Below.refl w.heap.size w) _) h1)
        have q0 : w1.cell? ⟨w.heap.size, 0, none⟩ = some (.int .u64 f) := ((Blk.new w 37 #[.int .u64 f, .int .u64 nn]).below h1).cell 0
        have q1 : w1.cell? ⟨w.heap.size, 1, none⟩ = some (.int .u64 nn) := ((Blk.new w 37 #[.int .u64 f, .int .u64 nn]).below h1).cell 1
        clear h1
        go_wp2_with fail
        refine (HP.out _ HB1.out).mono ?_
        rintro e w2 ⟨rfl, h2⟩
        have HB2 := Lib.hid (bt HB1.out h2)
        replace q0 := ecell h2 q0
        replace q1 := ecell h2 q1
        clear h2
        go_wp2_with fail
        refine (HSP.out _ HB2.out).mono ?_
        rintro e w3 ⟨rfl, h3⟩
        have HB3 := Lib.hid (bt HB2.out h3)
        replace q0 := ecell h3 q0
        replace q1 := ecell h3 q1
        clear h3
        go_wp2_with fail
        refine (HQ.out _ HB3.out).mono ?_
        rintro e w4 ⟨rfl, h4⟩
        have HB4 := Lib.hid (bt HB3.out h4)
        replace q0 := ecell h4 q0
        replace q1 := ecell h4 q1
        clear h4
        go_wp2_with fail
        refine (HV.out _ HB4.out).mono ?_
        rintro e w5 ⟨rfl, h5⟩
        have HB5 := Lib.hid (bt HB4.out h5)
        replace q0 := ecell h5 q0
        replace q1 := ecell h5 q1
        clear h5
        go_wp2
        go_ret
        exact ⟨rfl, HB5.out⟩
    · rw [decide_eq_false hr] at HQ
      clear hA hl hu hr hn hc hrs
      go_enter Try.func4, Try.ntmps4
      go_wp2_with fail
      refine (HF1.out _ (ba (Below.refl w.heap.size w) _)).mono ?_
      rintro e w1 ⟨rfl, h1⟩
      have HB1 := Lib.hid (bt (ba (Below.refl w.heap.size w) _) h1)
      have q0 : w1.cell? ⟨w.heap.size, 0, none⟩ = some (.int .u64 f) := ((Blk.new w 37 #[.int .u64 f, .int .u64 nn]).below h1).cell 0
      have q1 : w1.cell? ⟨w.heap.size, 1, none⟩ = some (.int .u64 nn) := ((Blk.new w 37 #[.int .u64 f, .int .u64 nn]).below h1).cell 1
      clear h1
      go_wp2_with fail
      refine (HP.out _ HB1.out).mono ?_
      rintro e w2 ⟨rfl, h2⟩
      have HB2 := Lib.hid (bt HB1.out h2)
      replace q0 := ecell h2 q0
      replace q1 := ecell h2 q1
      clear h2
      go_wp2_with fail
      refine (HSP.out _ HB2.out).mono ?_
      rintro e w3 ⟨rfl, h3⟩
      have HB3 := Lib.hid (bt HB2.out h3)
      replace q0 := ecell h3 q0
      replace q1 := ecell h3 q1
      clear h3
      go_wp2_with fail
      refine (HQ.out _ HB3.out).mono ?_
      rintro e w4 ⟨rfl, h4⟩
      have HB4 := Lib.hid (bt HB3.out h4)
      replace q0 := ecell h4 q0
      replace q1 := ecell h4 q1
      clear h4
      go_wp2_with fail
      refine (HV.out _ HB4.out).mono ?_
      rintro e w5 ⟨rfl, h5⟩
      have HB5 := Lib.hid (bt HB4.out h5)
      replace q0 := ecell h5 q0
      replace q1 := ecell h5 q1
      clear h5
      go_wp2
      go_ret
      exact ⟨rfl, HB5.out⟩
theorem eputslaw_any (A : Option Addr) (c : Nat) (L : List Rn) (f nn s : Int) (w : World) (hc : L.length ≤ c) (hA : ER w A L) (hu : ∀ r ∈ L, EU r) (hf : 0 ≤ f ∧ f ≤ 18446744073709551615) (hnn : 0 ≤ nn ∧ nn ≤ 18446744073709551615) :
    Calls Try.prog 4 #[.slice A L.length c, .agg #[.int .u64 f, .int .u64 nn], .int .i64 s] w fun e w' => e = .returned (.bool true) ∧ Below w.heap.size w w' :=
  eputs_in A L.length _ c (L.take 66) f nn s w hc rfl (by rw [List.length_take, Nat.min_comm]) (hA.take 66) (fun r hr => hu r (List.mem_of_mem_take hr)) hf hnn
end Go.Proofs.Ythimnpiiehggnaa
/- everywhere: what it hands on are the runs of all blocks, holes too. -/
namespace Go.Proofs.Ythimnpiiehggnaa
open Go.RowKit Go.Shelf
attribute [local go_sem] Oper.semAt_some

theorem eevery_any (a : Option Addr) (len cap : Nat) (w : World) :
    Calls Try.prog 35 #[.slice a len cap] w fun e w' => e = .returned (.func (.func 49) #[] #[.pointer (some ⟨w.heap.size, 0, none⟩)]) ∧ w' = w.alloc (.cells #[.slice a len cap] 22) := by
  go_enter Try.func35, Try.ntmps35
  go_wp2
  go_ret
  exact ⟨rfl, rfl⟩
/-- What the handing function keeps. -/
def EVI (b0 : Nat) (J : List Rn → (Nat → Prop) → World → Prop) (W : World) (X0 : Nat → Prop) (pre : List Rn) (wr : World) : Prop :=
  b0 ≤ wr.heap.size ∧ ∃ Y : Nat → Prop, J pre Y wr ∧ Bd Y wr ∧ ∀ k, X0 k → Y k ∧ wr.heap[k]? = W.heap[k]?
/-- .. and a box of its own. -/
def EVM (b0 : Nat) (J : List Rn → (Nat → Prop) → World → Prop) (W : World) (X0 : Nat → Prop) (M : Nat) (o : Obj) (pre : List Rn) (wr : World) : Prop :=
  b0 ≤ wr.heap.size ∧ ∃ Y : Nat → Prop, J pre Y wr ∧ Bd Y wr ∧ (∀ k, X0 k → Y k ∧ wr.heap[k]? = W.heap[k]?) ∧ Y M ∧ wr.heap[M]? = some o
section
variable {b0 : Nat} {J : List Rn → (Nat → Prop) → World → Prop} {W wr w3 : World} {X0 : Nat → Prop} {M : Nat} {o : Obj} {pre : List Rn}
theorem EVI.below (h : EVI b0 J W X0 pre wr) (hJ : AbE b0 J) (hb : Below wr.heap.size wr w3) : EVI b0 J W X0 pre w3 := by
  obtain ⟨h0, Y, h1, h2, h3⟩ := h
  exact ⟨Nat.le_trans h0 hb.size, Xn Y wr w3, hJ _ _ _ _ h1 (Grow.of_below hb Y) (hb.mono h0), Xn.bd h2 hb.size, fun k hk => ⟨.inl (h3 k hk).1, (hb.block _ (h2 _ (h3 k hk).1)).trans (h3 k hk).2⟩⟩
theorem EVI.box (h : EVI b0 J W X0 pre wr) (hJ : AbE b0 J) (o : Obj) : EVM b0 J W X0 wr.heap.size o pre (wr.alloc o) := by
  obtain ⟨h0, Y, h1, h2, h3⟩ := h
  have hb := ba (Below.refl wr.heap.size wr) o
  exact ⟨Nat.le_trans h0 hb.size, Xn Y wr _, hJ _ _ _ _ h1 (Grow.of_below hb Y) (hb.mono h0), Xn.bd h2 hb.size, fun k hk => ⟨.inl (h3 k hk).1, (hb.block _ (h2 _ (h3 k hk).1)).trans (h3 k hk).2⟩, .inr ⟨Nat.le_refl _, by simp⟩, heap_alloc_new wr o⟩
theorem EVM.below (h : EVM b0 J W X0 M o pre wr) (hJ : AbE b0 J) (hb : Below wr.heap.size wr w3) : EVM b0 J W X0 M o pre w3 := by
  obtain ⟨h0, Y, h1, h2, h3, h4, h5⟩ := h
  exact ⟨Nat.le_trans h0 hb.size, Xn Y wr w3, hJ _ _ _ _ h1 (Grow.of_below hb Y) (hb.mono h0), Xn.bd h2 hb.size, fun k hk => ⟨.inl (h3 k hk).1, (hb.block _ (h2 _ (h3 k hk).1)).trans (h3 k hk).2⟩, .inl h4, (hb.block _ (h2 _ h4)).trans h5⟩
theorem EVM.give (h : EVM b0 J W X0 M o pre wr) : ∃ Y, J pre Y wr ∧ Bd Y wr ∧ ∀ (W4 : World) (q : List Rn), J q Y W4 → Keep Y wr W4 → EVM b0 J W X0 M o q W4 := by
  obtain ⟨h0, Y, h1, h2, h3, h4, h5⟩ := h
  exact ⟨Y, h1, h2, fun W4 q hq hk => ⟨Nat.le_trans h0 hk.1, Y, hq, fun k hkk => Nat.lt_of_lt_of_le (h2 k hkk) hk.1, fun k hx => ⟨(h3 k hx).1, (hk.2 k (h3 k hx).1).trans (h3 k hx).2⟩, h4, (hk.2 M h4).trans h5⟩⟩
theorem EVM.blk {t : TypeId} {cs : Array Value} (h : EVM b0 J W X0 M (.cells cs t) pre wr) : Blk wr M t cs := by
  obtain ⟨_, _, _, _, _, _, h5⟩ := h
  exact h5
theorem EVM.less (h : EVM b0 J W X0 M o pre wr) : EVI b0 J W X0 pre wr := by
  obtain ⟨h0, Y, h1, h2, h3, _⟩ := h
  exact ⟨h0, Y, h1, h2, h3⟩
end
theorem eevery_hole {a : Int} {x : Rn} {L : List Rn} (h : a < x.f) : eevery a (x :: L) = ⟨a, x.f - a, 0⟩ :: x :: eevery (x.f + x.n) L := by rw [eevery, if_pos h]; rfl
theorem eevery_no {a : Int} {x : Rn} {L : List Rn} (h : ¬ a < x.f) : eevery a (x :: L) = x :: eevery (x.f + x.n) L := by rw [eevery, if_neg h]; rfl

set_option maxRecDepth 100000 in
set_option maxHeartbeats 4000000 in
theorem eevery_hands (b0 n : Nat) (hn : 1 ≤ n) (B N cap : Nat) (A : Option Addr) (L : List Rn) (w : World) (hB : Blk w B 22 #[.slice A N cap]) (hl : L.length = N) (hN : N ≤ 65536) (hR : ER w A L) (hL : EC 0 3 L) (hok : ∀ r ∈ L, 0 ≤ r.f ∧ r.f + r.n ≤ 576460752303423488) :
    HandsE b0 n 49 #[.pointer (some ⟨B, 0, none⟩)] rv (eevery 0 L) (fun k => k = B ∨ (L ≠ [] ∧ ∃ o, A = some ⟨k, o, none⟩)) w := by
  intro l J X W hX hb0 hJ hY h0 hbd
  have HST : Hid (EVI b0 J W (fun k => k = B ∨ (L ≠ [] ∧ ∃ o, A = some ⟨k, o, none⟩)) [] W) := Lib.hid ⟨hb0, X, h0, hbd, fun k hk => ⟨(hX k hk).1, rfl⟩⟩
  have cB : W.cell? ⟨B, 0, none⟩ = some (.slice A N cap) := (show Blk W B 22 #[.slice A N cap] from (hX B (.inl rfl)).2.trans hB).cell 0
  have HR : Hid (∀ pre wr, EVI b0 J W (fun k => k = B ∨ (L ≠ [] ∧ ∃ o, A = some ⟨k, o, none⟩)) pre wr → ER wr A L) := Lib.hid fun pre wr h => by
    obtain ⟨_, Y, _, _, h3⟩ := h
    by_cases hne : L = []
    · rw [hne]; exact ER.nil _ _
    · exact hR.kp (fun g off e => ((h3 g (.inr ⟨hne, off, e⟩)).2).trans (hX g (.inr ⟨hne, off, e⟩)).2)
  have HOK : Hid (∀ k, k < N → 0 ≤ (L.getD k default).f ∧ (L.getD k default).f + (L.getD k default).n ≤ 576460752303423488) := Lib.hid fun k hk => hok _ (egetD_mem (by omega))
  have HL := Lib.hid hl
  have HY := Lib.hid hY
  have HJ := Lib.hid hJ
  have HEC := Lib.hid hL
  clear hX hJ hY h0 hbd hB hR hL hok hl
  generalize (fun k => k = B ∨ (L ≠ [] ∧ ∃ o, A = some ⟨k, o, none⟩)) = X0 at HST HR
  refine callsIn_of_wp Try.func49 rfl trivial ?_ rfl
  simp only [Try.ntmps49, List.size_toArray, List.length_cons, List.length_nil, Nat.reduceAdd, Nat.reduceSub, Array.replicate_succ, Array.replicate_zero, List.push_toArray, List.append_toArray, List.nil_append, List.cons_append]
  gi_wp2
  gi_loopw [3, 8] (fun fv iv wr => ∃ (k : Nat) (a p : Int) (pre : List Rn), k ≤ N ∧ iv = .int .i64 k ∧ fv = .int .u64 a ∧ 0 ≤ a ∧ a ≤ 576460752303423488 ∧ Hid (EC a p (L.drop k)) ∧ Hid (pre ++ eevery a (L.drop k) = eevery 0 L) ∧ Hid (EVI b0 J W X0 pre wr)) (fun _ i _ => N - (intOf i).toNat)
  case atStart => exact ⟨0, 0, 3, [], Nat.zero_le _, rfl, rfl, by omega, by omega, HEC, Lib.hid rfl, HST⟩
  case round =>
    obtain ⟨k, a, p, pre, hk, rfl, rfl, ha0, ha1, HE, HP, HI⟩ := hrel
    by_cases hlt : k < N
    · obtain ⟨g, off, rfl, d0, d1, d2⟩ := (HR.out _ _ HI.out) k (by rw [HL.out]; exact hlt)
      have HX := Lib.hid (HOK.out k hlt)
      have HD : Hid (L.drop k = L.getD k default :: L.drop (k + 1)) := Lib.hid (by have hlt' : k < L.length := (by rw [HL.out]; exact hlt); rw [List.drop_eq_getElem_cons hlt']; simp [List.getD, hlt'])
      have i1 : (0 : Int) ≤ (k : Int) := by omega
      have i2 : (k : Int) < (N : Int) := by omega
      generalize L.getD k default = x at d0 d1 d2 HX HD
      rw [HD.out] at HE HP
      obtain ⟨h1, h2, h3⟩ := HE.out
      have HE3 := Lib.hid h3
      have HM := Lib.hid (HI.out.box HJ.out (.cells #[.int .u64 x.f, .int .u64 x.n, .int .i64 x.s] 47))
      have HN := Lib.hid (fun V => eend_any x V HX.out.1 (by omega) (by have := HX.out.2; omega))
      have hxb := HX.out
      by_cases hc : a < x.f
      · have HP2 : Hid ((pre ++ [⟨a, x.f - a, 0⟩]) ++ ([x] ++ eevery (x.f + x.n) (L.drop (k + 1))) = eevery 0 L) := Lib.hid (by rw [← HP.out, eevery_hole hc]; simp)
        have HH := Lib.hid (fun V => ehole_any a x.f V ha0 (by omega) (by omega))
        clear HE HP h3 h1
        gi_wp2_with fail
        refine ⟨trivial, ?_⟩
        refine (callsIn_wide.2 (HH.out _)).mono ?_
        rintro e w3 ⟨rfl, hb3⟩
        have HM3 := Lib.hid (HM.out.below HJ.out hb3)
        obtain ⟨Y, y1, y2, y3⟩ := HM3.out.give
        obtain ⟨fn, tmps, assign, body, hy, hR⟩ := HY.out pre ⟨a, x.f - a, 0⟩ Y w3 y1 y2 ⟨_, HP2.out⟩
        have HY3 := Lib.hid y3
        clear hb3 y1 y2 y3
        -- AFTER
        gi_wp2_with fail
        refine hR.mono ?_
        rintro e W4 ⟨rfl, hJ4, hk4⟩
        have HM4 := Lib.hid (HY3.out W4 _ hJ4 hk4)
        have HP3 : Hid (((pre ++ [⟨a, x.f - a, 0⟩]) ++ [x]) ++ eevery (x.f + x.n) (L.drop (k + 1)) = eevery 0 L) := Lib.hid (by rw [← HP2.out]; simp)
        clear hJ4 hk4
        have r0 : W4.cell? ⟨wr.heap.size, 0, none⟩ = some (.int .u64 x.f) := HM4.out.blk.cell 0
        have r1 : W4.cell? ⟨wr.heap.size, 1, none⟩ = some (.int .u64 x.n) := HM4.out.blk.cell 1
        have r2 : W4.cell? ⟨wr.heap.size, 2, none⟩ = some (.int .i64 x.s) := HM4.out.blk.cell 2
        obtain ⟨Z, z1, z2, z3⟩ := HM4.out.give
        obtain ⟨fn2, tmps2, assign2, body2, hy2, hR2⟩ := HY.out (pre ++ [⟨a, x.f - a, 0⟩]) x Z W4 z1 z2 ⟨_, HP3.out⟩
        have HZ3 := Lib.hid z3
        clear z1 z2 z3
        gi_wp2_with fail
        refine hR2.mono ?_
        rintro e W5 ⟨rfl, hJ5, hk5⟩
        have HM5 := Lib.hid (HZ3.out W5 _ hJ5 hk5)
        have s0 : W5.cell? ⟨wr.heap.size, 0, none⟩ = some (.int .u64 x.f) := HM5.out.blk.cell 0
        have s1 : W5.cell? ⟨wr.heap.size, 1, none⟩ = some (.int .u64 x.n) := HM5.out.blk.cell 1
        have s2 : W5.cell? ⟨wr.heap.size, 2, none⟩ = some (.int .i64 x.s) := HM5.out.blk.cell 2
        clear hJ5 hk5 r0 r1 r2
        gi_wp2_with fail
        refine ⟨trivial, ?_⟩
        refine (callsIn_wide.2 (HN.out _)).mono ?_
        rintro e w6 ⟨rfl, hb6⟩
        have HM6 := Lib.hid (HM5.out.below HJ.out hb6).less
        clear hb6 s0 s1 s2
        gi_wp2
        go_roundw
        case rel => exact ⟨k + 1, x.f + x.n, x.s, (pre ++ [⟨a, x.f - a, 0⟩]) ++ [x], by omega, by go_num, rfl, by have := HX.out; omega, by have := HX.out; omega, HE3, HP3, HM6⟩
        case measure => simp [intOf]; omega
      · have HP3 : Hid ((pre ++ [x]) ++ eevery (x.f + x.n) (L.drop (k + 1)) = eevery 0 L) := Lib.hid (by rw [← HP.out, eevery_no hc]; simp)
        have e1 : decide (a < x.f) = false := by simpa using hc
        clear HE HP h3 h1 hc
        have r0 : (wr.alloc (.cells #[.int .u64 x.f, .int .u64 x.n, .int .i64 x.s] 47)).cell? ⟨wr.heap.size, 0, none⟩ = some (.int .u64 x.f) := HM.out.blk.cell 0
        have r1 : (wr.alloc (.cells #[.int .u64 x.f, .int .u64 x.n, .int .i64 x.s] 47)).cell? ⟨wr.heap.size, 1, none⟩ = some (.int .u64 x.n) := HM.out.blk.cell 1
        have r2 : (wr.alloc (.cells #[.int .u64 x.f, .int .u64 x.n, .int .i64 x.s] 47)).cell? ⟨wr.heap.size, 2, none⟩ = some (.int .i64 x.s) := HM.out.blk.cell 2
        obtain ⟨Z, z1, z2, z3⟩ := HM.out.give
        obtain ⟨fn2, tmps2, assign2, body2, hy2, hR2⟩ := HY.out pre x Z (wr.alloc (.cells #[.int .u64 x.f, .int .u64 x.n, .int .i64 x.s] 47)) z1 z2 ⟨_, HP3.out⟩
        have HZ3 := Lib.hid z3
        clear z1 z2 z3
        gi_wp2_with fail
        refine ⟨trivial, ?_⟩
        gi_wp2_with fail
        refine ⟨fun f h => (by cases h), ?_⟩
        gi_wp2_with fail
        refine hR2.mono ?_
        rintro e W5 ⟨rfl, hJ5, hk5⟩
        have HM5 := Lib.hid (HZ3.out W5 _ hJ5 hk5)
        have s0 : W5.cell? ⟨wr.heap.size, 0, none⟩ = some (.int .u64 x.f) := HM5.out.blk.cell 0
        have s1 : W5.cell? ⟨wr.heap.size, 1, none⟩ = some (.int .u64 x.n) := HM5.out.blk.cell 1
        have s2 : W5.cell? ⟨wr.heap.size, 2, none⟩ = some (.int .i64 x.s) := HM5.out.blk.cell 2
        clear hJ5 hk5 r0 r1 r2
        gi_wp2_with fail
        refine ⟨trivial, ?_⟩
        refine (callsIn_wide.2 (HN.out _)).mono ?_
        rintro e w6 ⟨rfl, hb6⟩
        have HM6 := Lib.hid (HM5.out.below HJ.out hb6).less
        clear hb6 s0 s1 s2
        gi_wp2
        go_roundw
        case rel => exact ⟨k + 1, x.f + x.n, x.s, pre ++ [x], by omega, by go_num, rfl, by have := HX.out; omega, by have := HX.out; omega, HE3, HP3, HM6⟩
        case measure => simp [intOf]; omega
    · obtain rfl : k = N := by omega
      have HPE : Hid (pre ++ (if a < 576460752303423488 then [(⟨a, 576460752303423488 - a, 0⟩ : Rn)] else []) = eevery 0 L) := Lib.hid (by rw [← HP.out, ← HL.out, List.drop_length]; rfl)
      clear HP
      by_cases hc : a < 576460752303423488
      · rw [if_pos hc] at HPE
        have HH := Lib.hid (fun V => ehole_any a 576460752303423488 V ha0 (by omega) (by omega))
        gi_wp2_with fail
        refine ⟨trivial, ?_⟩
        refine (callsIn_wide.2 (HH.out _)).mono ?_
        rintro e w3 ⟨rfl, hb3⟩
        obtain ⟨_, Y, y1, y2, y3⟩ := HI.out.below HJ.out hb3
        obtain ⟨fn, tmps, assign, body, hy, hR⟩ := HY.out pre ⟨a, 576460752303423488 - a, 0⟩ Y w3 y1 y2 (by rw [HPE.out]; exact List.prefix_refl _)
        have HY2 := Lib.hid y2
        clear hb3 y1 y2 y3
        gi_wp2_with fail
        refine hR.mono ?_
        rintro e W4 ⟨rfl, hJ4, hk4⟩
        gi_wp2
        go_end0
        exact ⟨⟨_, rfl⟩, Y, by rw [← HPE.out]; exact hJ4, fun k hk => Nat.lt_of_lt_of_le (HY2.out k hk) hk4.1⟩
      · rw [if_neg hc, List.append_nil] at HPE
        have e1 : decide (a < 576460752303423488) = false := by simpa using hc
        obtain ⟨_, Y, y1, y2, _⟩ := HI.out
        clear hc
        gi_wp2
        go_end0
        exact ⟨⟨_, rfl⟩, Y, by rw [← HPE.out]; exact y1, y2⟩
theorem eevery_enters : ∀ args w, (callFunc 49 args).run Try.prog w = .ok (.enter 49 args) w := enters_of Try.func49 (by kernel_rfl) rfl
end Go.Proofs.Ythimnpiiehggnaa
