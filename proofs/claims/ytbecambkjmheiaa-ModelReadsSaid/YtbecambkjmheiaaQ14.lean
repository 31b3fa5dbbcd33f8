/- Texts of this seat, one behind the other: NByB, NClone, NHBld, NBld, NStr. -/
import Derived.Shelf.Strings.Builder1
import Derived.Shelf.Strings.Builder2
import Derived.Test.YtbecambkjmheiaaRows
import Derived.Lib.AppendStr
import Derived.Lib.AppendZeros
import Derived.Lib.UnsafeStr
import Derived.Test.YtbecambkjmheiaaQ01
import Derived.Test.YtbecambkjmheiaaQ02
import Derived.Test.YtbecambkjmheiaaQ03
import Derived.Test.YtbecambkjmheiaaQ07
import Derived.Test.YtbecambkjmheiaaQ09
import Derived.Test.YtbecambkjmheiaaQ10
import Derived.Test.YtbecambkjmheiaaQ11
import Derived.Test.YtbecambkjmheiaaQ13
/- The contracts of the changes of one block: discarding, zeroing, reserving. -/
namespace Go.Proofs.Ytbecambkjmheiaa
open Go.RowKit

theorem cF_two (g : Nat → UInt8) (f len k : Nat) (c : CL) (hn : c.n = f / 32 + k) : cF 2 g f len c = if mL f len k = 32 then cHole c.n else cClear f len c := by
  have hwh : cWhole f len c.n ↔ mL f len k = 32 := by rw [hn]; exact mp_whole.symm
  unfold cF cClear
  rw [if_neg (show ¬ (2 : Nat) = 1 by omega), if_neg (show ¬ (2 : Nat) = 4 by omega)]
  by_cases h : cWhole f len c.n
  · rw [if_pos h, if_neg (show ¬ ((2 : Nat) = 3 ∧ c.s ≠ 0) from fun h => by omega), if_pos (hwh.1 h)]
  · rw [if_neg h, if_neg (fun h' => h (hwh.2 h'))]
theorem cF_three (g : Nat → UInt8) (f len k : Nat) (c : CL) (hn : c.n = f / 32 + k) (hc : CIs c) : cF 3 g f len c = if mL f len k = 32 ∧ c.s = 1 then ⟨c.n, 2, []⟩ else cClear f len c := by
  have hwh : cWhole f len c.n ↔ mL f len k = 32 := by rw [hn]; exact mp_whole.symm
  unfold cF cClear
  rw [if_neg (show ¬ (3 : Nat) = 1 by omega), if_neg (show ¬ (3 : Nat) = 4 by omega)]
  by_cases h : cWhole f len c.n
  · rw [if_pos h]
    have h' := hwh.1 h
    by_cases hs : c.s = 1
    · rw [if_pos (show (3 : Nat) = 3 ∧ c.s ≠ 0 from ⟨rfl, by omega⟩), if_pos ⟨h', hs⟩]
    · rw [if_neg (show ¬ (mL f len k = 32 ∧ c.s = 1) from fun hh => hs hh.2), if_neg hs]
      rcases hc with ⟨_, h8 | h8⟩ | h8
      · exact absurd h8.1 hs
      · rw [if_pos (show (3 : Nat) = 3 ∧ c.s ≠ 0 from ⟨rfl, by omega⟩)]
        obtain ⟨cn, cs, cd⟩ := c
        obtain ⟨h81, h82⟩ := h8
        simp only at h81 h82
        rw [h81, h82]
      · have h0 : c.s = 0 := by rw [h8]; rfl
        rw [if_neg (show ¬ ((3 : Nat) = 3 ∧ c.s ≠ 0) from fun hh => hh.2 h0)]
        exact h8.symm
  · rw [if_neg h, if_neg (show ¬ (mL f len k = 32 ∧ c.s = 1) from fun hh => h (hwh.2 hh.1))]

set_option maxRecDepth 100000 in
set_option maxHeartbeats 4000000 in
theorem nby_discard (g : Nat → UInt8) (f len : Nat) (w : World) (h1 : 1 ≤ len) (h3 : f + len ≤ 18446744073709551616) : ByF w 26 #[] (cF 2 g f len) f len := by
  intro W hW c k hk hn hc
  have HW := Lib.hid (fun V => nwhole_any (m0 f k) (mL f len k) V)
  have HC := Lib.hid (fun V => ncleared_any f len k c V hn hk h1 h3 hc)
  have e := cF_two g f len k c hn
  rw [e]
  show Calls Try.prog 26 #[cv c, .agg #[vu (m0 f k), vu (mL f len k)]] W _
  generalize cClear f len c = D at *
  clear e hn hc hk hW
  by_cases h : mL f len k = 32
  · rw [if_pos h]
    rw [decide_eq_true h] at HW
    clear h
    go_enter Try.func26, Try.ntmps26
    go_wp2_with fail
    have hS0 := NB3.start c (m0 f k) (mL f len k) W
    refine (HW.out _).mono ?_
    rintro e w1 ⟨rfl, hb1⟩
    obtain ⟨q0, _⟩ := hS0.later hb1
    obtain ⟨_, _, _, r0, r1, r2, s0, s1, s2⟩ := (hS0.later hb1).res
    obtain ⟨⟨o0, o1, o2⟩, hbl⟩ := (hS0.later hb1).out (by omega) (.int .u64 (c.n : Int)) (.int .i64 0) (.string ⟨#[]⟩)
    clear hS0
    go_wp2
    refine bodyPost_ret (v := cv (cHole c.n)) (by simp [results, Try.results26, go_sem, o0, o1, o2, cHole]) rfl ⟨rfl, hbl⟩
  · rw [if_neg h]
    rw [decide_eq_false h] at HW
    clear h
    go_enter Try.func26, Try.ntmps26
    go_wp2_with fail
    have hS0 := NB3.start c (m0 f k) (mL f len k) W
    refine (HW.out _).mono ?_
    rintro e w1 ⟨rfl, hb1⟩
    have hS1 := hS0.later hb1
    clear hS0 hb1
    obtain ⟨q0, q1, q2, p0, p1, _⟩ := id hS1
    go_wp2_with fail
    refine (HC.out _).mono ?_
    rintro e w2 ⟨rfl, hb2⟩
    have hS2 := hS1.later hb2
    clear hS1 hb2 q0 q1 q2 p0 p1
    obtain ⟨_, _, _, r0, r1, r2, s0, s1, s2⟩ := hS2.res
    obtain ⟨⟨o0, o1, o2⟩, hbl⟩ := hS2.out (by omega) (.int .u64 (D.n : Int)) (.int .i64 D.s) (.string ⟨D.d.toArray⟩)
    clear hS2
    go_wp2
    refine bodyPost_ret (v := cv D) (by simp [results, Try.results26, go_sem, o0, o1, o2]) rfl ⟨rfl, hbl⟩

set_option maxRecDepth 100000 in
set_option maxHeartbeats 4000000 in
theorem nby_zero (g : Nat → UInt8) (f len : Nat) (w : World) (h1 : 1 ≤ len) (h3 : f + len ≤ 18446744073709551616) : ByF w 29 #[] (cF 3 g f len) f len := by
  intro W hW c k hk hn hc
  have HW := Lib.hid (fun V => nwhole_any (m0 f k) (mL f len k) V)
  have HC := Lib.hid (fun V => ncleared_any f len k c V hn hk h1 h3 hc)
  have e := cF_three g f len k c hn hc
  rw [e]
  show Calls Try.prog 29 #[cv c, .agg #[vu (m0 f k), vu (mL f len k)]] W _
  generalize cClear f len c = D at *
  clear e hn hc hk hW
  by_cases h : mL f len k = 32 ∧ c.s = 1
  · rw [if_pos h]
    rw [decide_eq_true h.1] at HW
    obtain ⟨n, s, d⟩ := c
    obtain ⟨h9, hs⟩ := h
    clear h9
    simp only at hs
    subst hs
    go_enter Try.func29, Try.ntmps29
    go_wp2_with fail
    have hS0 := NB3.start ⟨n, 1, d⟩ (m0 f k) (mL f len k) W
    refine (HW.out _).mono ?_
    rintro e w1 ⟨rfl, hb1⟩
    obtain ⟨q0, q1, _⟩ := hS0.later hb1
    obtain ⟨_, _, _, r0, r1, r2, s0, s1, s2⟩ := (hS0.later hb1).res
    obtain ⟨⟨o0, o1, o2⟩, hbl⟩ := (hS0.later hb1).out (by omega) (.int .u64 (n : Int)) (.int .i64 2) (.string ⟨#[]⟩)
    clear hS0
    go_wp2
    refine bodyPost_ret (v := cv ⟨n, 2, []⟩) (by simp [results, Try.results29, go_sem, o0, o1, o2]) rfl ⟨rfl, hbl⟩
  · rw [if_neg h]
    by_cases h32 : mL f len k = 32
    · rw [decide_eq_true h32] at HW
      have hs : decide (c.s = 1) = false := by simp only [decide_eq_false_iff_not]; exact fun hs => h ⟨h32, hs⟩
      have hs2 : ¬ (c.s = 1) := fun hs => h ⟨h32, hs⟩
      clear h h32
      go_enter Try.func29, Try.ntmps29
      go_wp2_with fail
      have hS0 := NB3.start c (m0 f k) (mL f len k) W
      refine (HW.out _).mono ?_
      rintro e w1 ⟨rfl, hb1⟩
      have hS1 := hS0.later hb1
      clear hS0 hb1
      obtain ⟨q0, q1, q2, p0, p1, _⟩ := id hS1
      go_wp2_with fail
      refine (HC.out _).mono ?_
      rintro e w2 ⟨rfl, hb2⟩
      have hS2 := hS1.later hb2
      clear hS1 hb2 q0 q1 q2 p0 p1
      obtain ⟨_, _, _, r0, r1, r2, s0, s1, s2⟩ := hS2.res
      obtain ⟨⟨o0, o1, o2⟩, hbl⟩ := hS2.out (by omega) (.int .u64 (D.n : Int)) (.int .i64 D.s) (.string ⟨D.d.toArray⟩)
      clear hS2
      go_wp2
      refine bodyPost_ret (v := cv D) (by simp [results, Try.results29, go_sem, o0, o1, o2]) rfl ⟨rfl, hbl⟩
    · rw [decide_eq_false h32] at HW
      clear h h32
      go_enter Try.func29, Try.ntmps29
      go_wp2_with fail
      have hS0 := NB3.start c (m0 f k) (mL f len k) W
      refine (HW.out _).mono ?_
      rintro e w1 ⟨rfl, hb1⟩
      have hS1 := hS0.later hb1
      clear hS0 hb1
      obtain ⟨q0, q1, q2, p0, p1, _⟩ := id hS1
      go_wp2_with fail
      refine (HC.out _).mono ?_
      rintro e w2 ⟨rfl, hb2⟩
      have hS2 := hS1.later hb2
      clear hS1 hb2 q0 q1 q2 p0 p1
      obtain ⟨_, _, _, r0, r1, r2, s0, s1, s2⟩ := hS2.res
      obtain ⟨⟨o0, o1, o2⟩, hbl⟩ := hS2.out (by omega) (.int .u64 (D.n : Int)) (.int .i64 D.s) (.string ⟨D.d.toArray⟩)
      clear hS2
      go_wp2
      refine bodyPost_ret (v := cv D) (by simp [results, Try.results29, go_sem, o0, o1, o2]) rfl ⟨rfl, hbl⟩

set_option maxRecDepth 100000 in
set_option maxHeartbeats 4000000 in
theorem nby_reserve (g : Nat → UInt8) (f len : Nat) (w : World) : ByF w 20 #[] (cF 4 g f len) f len := by
  intro W hW c k hk hn hc
  have e : cF 4 g f len c = if c.s = 0 then ⟨c.n, 2, []⟩ else c := by
    unfold cF
    rw [if_neg (by omega), if_pos rfl]
  rw [e]
  show Calls Try.prog 20 #[cv c, .agg #[vu (m0 f k), vu (mL f len k)]] W _
  clear e hn hc hk hW
  by_cases h : c.s = 0
  · rw [if_pos h]
    obtain ⟨n, s, d⟩ := c
    simp only at h
    subst h
    go_enter Try.func20, Try.ntmps20
    go_wp2
    refine bodyPost_ret (v := cv ⟨n, 2, []⟩) (by simp [results, Try.results20, go_sem]) rfl ⟨rfl, ?_⟩
    exact ba (ba (ba (Below.refl _ _) _) _) _
  · rw [if_neg h]
    have hs : decide (c.s = 0) = false := by simpa using h
    go_enter Try.func20, Try.ntmps20
    go_wp2
    refine bodyPost_ret (v := cv c) (by simp [results, Try.results20, go_sem]) rfl ⟨rfl, ?_⟩
    exact ba (ba (ba (Below.refl _ _) _) _) _
end Go.Proofs.Ytbecambkjmheiaa
/- slices.Clone of cells; what a change of cells makes; what holds between two rounds of it. -/
namespace Go.Proofs.Ytbecambkjmheiaa
open Go.RowKit Go.Shelf

theorem nown_nil {W : World} {t : TypeId} {g base size : Nat} (h : Blk W g t #[]) (hb : base ≤ g) : W.ownsRow base t size (.slice (some ⟨g, 0, none⟩) 0 0) 0 [] :=
  ⟨by simp, .inr ⟨g, 0, #[], rfl, hb, h, Nat.le_refl _, Nat.zero_le _, by simp, by simp⟩⟩
set_option maxRecDepth 100000 in
set_option maxHeartbeats 1000000 in
theorem nclone_any (A : Option Addr) (c n : Nat) (L : List CL) (w : World) (hA : CR w A L) (hl : L.length = n) (h0 : A = none → c = 0) (hn : n ≤ 65536) :
    Calls Try.prog 46 #[.slice A n c] w fun e w' => ∃ v, e = .returned v ∧ NO w' w.heap.size v n L ∧ Below w.heap.size w w' := by
  cases A with
  | none =>
    have hL : L = [] := by
      cases L with
      | nil => rfl
      | cons x r => obtain ⟨g, off, e, _⟩ := hA 0 (by simp); cases e
    subst hL
    subst hl
    rw [h0 rfl]
    clear h0 hA
    go_enter Try.func46, Try.ntmps46
    have hq := fun (w : World) => Lib.run_eql_slice_nil (P := Try.prog) w 22 45 none 0 0 0 0 Try.underlying22
    go_wp2
    go_ret
    exact ⟨_, rfl, World.ownsRow_nil _ _ _ _, Below.refl _ _⟩
  | some a =>
    clear h0
    obtain ⟨ti, hi, hz0, hz1, hz2⟩ := info_parts infoN
    have HC := Lib.hid ((hA.later (ba (Below.refl w.heap.size w) (.cells #[] 45))).cells)
    have HO : Hid ((w.alloc (.cells #[] 45)).ownsRow w.heap.size 45 3 (.slice (some ⟨w.heap.size, 0, none⟩) 0 0) 0 []) := Lib.hid (nown_nil (Blk.new w _ _) (Nat.le_refl _))
    have HL : Hid ((ccells L).length = n * 3) := Lib.hid (by rw [ccells_len, hl])
    have H1 := Lib.hid (ccells_one L)
    clear hA hl
    go_enter Try.func46, Try.ntmps46
    have hq := fun (w : World) => Lib.run_eql_slice_nil (P := Try.prog) w 22 45 (some a) n c 0 0 Try.underlying22
    go_wp2_with (at_builtin; refine wpList_append_own _ rfl _ _ 22 rfl w.heap.size 45 ti _ 3 32 Try.underlying22 hi hz0 hz1 hz2 rfl (by decide) _ _ _ rfl HO.out a n c (ccells L) rfl HL.out HC.out H1.out (by unfold maxLen; omega) (by omega) (by simp) ?_; intro v3 w3 hown3 hgrow3 _)
    rw [Nat.zero_add] at hown3
    obtain ⟨va, vc, rfl, _⟩ := own_form hown3
    go_ret
    refine ⟨_, rfl, ?_, (ba (Below.refl _ _) _).grown hgrow3 (by simp) (fun k e => (HO.out.lt k e).1)⟩
    simpa using hown3

theorem prefix_range {pre : List Nat} {x K : Nat} (h : (pre ++ [x]) <+: List.range K) : x = pre.length ∧ x < K := by
  have hl := h.length_le
  rw [List.length_append, List.length_singleton, List.length_range] at hl
  have h1 : (pre ++ [x])[pre.length]? = (List.range K)[pre.length]? := by
    obtain ⟨t, ht⟩ := h
    rw [← ht]
    exact (List.getElem?_append_left (by simp)).symm
  rw [List.getElem?_append_right (Nat.le_refl _), Nat.sub_self, List.getElem?_range (by omega)] at h1
  simp at h1
  omega
theorem onlyW_normal {Q : Exit → Act → World → Prop} {a : Act} {w : World} (h : Q .normal a w) : OnlyW Q .normal a w := h
/-- The cells then. -/
def cNow (L : List CL) (f len : Nat) (F : CL → CL) : List CL := if cWhy L f len = 0 then cdo L F (f / 32) (mK f len) else []
/-- Between two rounds. -/
def NCI (b0 : Nat) (w : World) (TB FB : Nat) (fv : Value) (L : List CL) (F : CL → CL) (a : Nat) (pre : List Nat) (Y : Nat → Prop) (V : World) : Prop :=
  ∃ v, Blk V TB 22 #[v] ∧ NO V b0 v (cdo L F a pre.length).length (cdo L F a pre.length) ∧ ¬ Y TB ∧ (∀ k, v.ownBlock = some k → ¬ Y k) ∧ Blk V FB 77 #[fv] ∧ ¬ Y FB ∧ Below b0 w V
section
variable {b0 : Nat} {w : World} {TB FB : Nat} {fv : Value} {L : List CL} {F : CL → CL} {a : Nat} {pre : List Nat} {Y : Nat → Prop} {V V' : World}
theorem NCI.ab (b0 : Nat) (w : World) (TB FB : Nat) (fv : Value) (L : List CL) (F : CL → CL) (a : Nat) : AbN2 b0 (NCI b0 w TB FB fv L F a) := by
  rintro s X V V' ⟨v, h1, h2, h3, h4, h5, h6, h7⟩ hg hb
  have hl := h1.lt
  have hl5 := h5.lt
  refine ⟨v, (hg.block _ hl h3).trans h1, vown_kept h2 (fun k hk => hg.block k (by obtain ⟨_, cs, hc⟩ := vown_blk h2 k hk; exact hc.lt) (h4 k hk)), ?_, ?_, (hg.block _ hl5 h6).trans h5, ?_, h7.trans hb⟩
  · rintro (h | ⟨h, _⟩)
    · exact h3 h
    · omega
  · intro k hk
    obtain ⟨_, cs, hc⟩ := vown_blk h2 k hk
    have := hc.lt
    rintro (h | ⟨h, _⟩)
    · exact h4 k hk h
    · omega
  · rintro (h | ⟨h, _⟩)
    · exact h6 h
    · omega
theorem NCI.below (h : NCI b0 w TB FB fv L F a pre Y V) (hb0 : b0 ≤ V.heap.size) (hb : Below V.heap.size V V') : NCI b0 w TB FB fv L F a pre Y V' := by
  obtain ⟨v, h1, h2, h3, h4, h5, h6, h7⟩ := h
  exact ⟨v, h1.below hb, no_later h2 hb, h3, h4, h5.below hb, h6, h7.trans (hb.mono hb0)⟩
/-- A round's end: a cell put, the row stored in its box. -/
theorem NCI.more {x : Nat} {U w6 : World} {v v6 : Value} (hY : Bd Y V) (hb0 : b0 ≤ w.heap.size) (hB0 : b0 ≤ TB) (h1 : Blk V TB 22 #[v]) (h2 : NO V b0 v (cdo L F a pre.length).length (cdo L F a pre.length)) (h3 : ¬ Y TB) (h4 : ∀ k, v.ownBlock = some k → ¬ Y k) (h5 : Blk V FB 77 #[fv]) (h6 : ¬ Y FB) (h7 : Below b0 w V)
    (hU : Below V.heap.size V U) (g1 : NO w6 b0 v6 (cdo L F a (pre.length + 1)).length (cdo L F a (pre.length + 1))) (g2 : U.grownBy w6 v.ownBlock) (g3 : v6.ownBlock = v.ownBlock ∨ ∃ k, v6.ownBlock = some k ∧ U.heap.size ≤ k) :
    (w6.cell? ⟨TB, 0, none⟩ = some v ∧ w6.frozen? ⟨TB, 0, none⟩ = false) ∧ NCI b0 w TB FB fv L F a (pre ++ [x]) Y (w6.setCell ⟨TB, 0, none⟩ v6) ∧ Keep Y V (w6.setCell ⟨TB, 0, none⟩ v6) := by
  have hown := no_later h2 hU
  have j2 : Blk w6 TB 22 #[v] := (g2.block _ (Nat.lt_of_lt_of_le h1.lt hU.size) (fun e => vown_ne hown (h1.below hU) (by decide) e.symm)).trans (h1.below hU)
  have j5 : Blk w6 FB 77 #[fv] := (g2.block _ (Nat.lt_of_lt_of_le h5.lt hU.size) (fun e => vown_ne hown (h5.below hU) (by decide) e.symm)).trans (h5.below hU)
  have hTF : FB ≠ TB := fun e => by
    subst e
    have e : some (Obj.cells #[v] 22 (0, 0)) = some (Obj.cells #[fv] 77 (0, 0)) := (show V.heap[FB]? = _ from h1).symm.trans h5
    injection e with e
    injection e with e1 e2
    exact absurd e2 (by decide)
  have hkp : Keep Y V w6 := ⟨Nat.le_trans hU.size g2.size, fun k hk => (g2.block k (Nat.lt_of_lt_of_le (hY k hk) hU.size) (fun e => h4 k e.symm hk)).trans (hU.block k (hY k hk))⟩
  have hb6 : Below b0 V w6 := (hU.mono (Nat.le_trans hb0 (Nat.le_trans (by have := h7.size; omega) (Nat.le_refl _)))).grown g2 (Nat.le_trans (Nat.le_trans hb0 h7.size) hU.size) (fun k e => (vown_blk hown k e).1)
  have hne6 : ∀ k, v6.ownBlock = some k → k ≠ TB := fun k hk e => vown_ne g1 j2 (by decide) (by rw [hk, e])
  refine ⟨⟨j2.cell 0, j2.frozen 0⟩, ⟨v6, j2.set_ 0 v6, ?_, h3, ?_, j5.far (p := ⟨TB, 0, none⟩) hTF v6, h6, (h7.trans hb6).setCell (p := ⟨TB, 0, none⟩) hB0 v6⟩, ?_⟩
  · rw [List.length_append, List.length_singleton]
    exact vown_kept g1 (fun k hk => Below.heap_setCell w6 ⟨TB, 0, none⟩ v6 k (hne6 k hk))
  · intro k hk hy
    rcases g3 with e | ⟨m, e, hm⟩
    · exact h4 k (by rw [← e]; exact hk) hy
    · rw [e] at hk
      injection hk with hk
      have := hY k hy
      have := hU.size
      omega
  · exact Keep.setCell hkp h3 v6
end
end Go.Proofs.Ytbecambkjmheiaa
/- (without WriteByte) strings.Builder's methods, as they stand in this program: the numbers under which the library's contracts find them. -/
namespace Go.Proofs.Ytbecambkjmheiaa
open Go.Shelf Go.RowKit
def bldRen : Go.Shelf.Ren := ⟨fun | 165 => 40 | 166 => 32 | 169 => 36 | 170 => 41 | 240 => 53 | 241 => 58 | 276 => 69 | 277 => 73 | n => n, fun | 0 => 0 | 3 => 3 | 4 => 4 | 5 => 5 | 9 => 9 | 20 => 20 | 37 => 56 | 70 => 55 | 72 => 58 | 75 => 63 | 80 => 69 | 127 => 88 | 164 => 105 | n => n, fun | n => n⟩
theorem bldLays170 : Go.Proofs.Lays.n170 Try.prog bldRen := {
  mixed := by kernel_rfl
  f170 := Try.func41.trans (congrArg some (by kernel_rfl))
  t0 := Try.underlying0
  a0 := Try.isAgg0
  z0 := Try.sizeOf0
  v0 := Try.zeroValue0
  t3 := Try.underlying3
  a3 := Try.isAgg3
  z3 := Try.sizeOf3
  v3 := Try.zeroValue3
  t37 := Try.underlying56
  a37 := Try.isAgg56
  z37 := Try.sizeOf56
  v37 := Try.zeroValue56
  t70 := Try.underlying55
  a70 := Try.isAgg55
  z70 := Try.sizeOf55
  v70 := Try.zeroValue55
  t72 := Try.underlying58
  a72 := Try.isAgg58
  z72 := Try.sizeOf58
  v72 := Try.zeroValue58 }
theorem bldLays169 : Go.Proofs.Lays.n169 Try.prog bldRen := {
  mixed := by kernel_rfl
  f169 := Try.func36.trans (congrArg some (by kernel_rfl))
  t0 := Try.underlying0
  a0 := Try.isAgg0
  z0 := Try.sizeOf0
  v0 := Try.zeroValue0
  t3 := Try.underlying3
  a3 := Try.isAgg3
  z3 := Try.sizeOf3
  v3 := Try.zeroValue3
  t9 := Try.underlying9
  a9 := Try.isAgg9
  z9 := Try.sizeOf9
  v9 := Try.zeroValue9
  t37 := Try.underlying56
  a37 := Try.isAgg56
  z37 := Try.sizeOf56
  v37 := Try.zeroValue56
  t70 := Try.underlying55
  a70 := Try.isAgg55
  z70 := Try.sizeOf55
  v70 := Try.zeroValue55
  t72 := Try.underlying58
  a72 := Try.isAgg58
  z72 := Try.sizeOf58
  v72 := Try.zeroValue58
  t127 := Try.underlying88
  a127 := Try.isAgg88
  z127 := Try.sizeOf88
  v127 := Try.zeroValue88 }
theorem bldLays165 : Go.Proofs.Lays.n165 Try.prog bldRen := {
  mixed := by kernel_rfl
  f165 := Try.func40.trans (congrArg some (by kernel_rfl))
  f240 := Try.func53.trans (congrArg some (by kernel_rfl))
  f241 := Try.func58.trans (congrArg some (by kernel_rfl))
  f276 := Try.func69.trans (congrArg some (by kernel_rfl))
  f277 := Try.func73.trans (congrArg some (by kernel_rfl))
  t0 := Try.underlying0
  a0 := Try.isAgg0
  z0 := Try.sizeOf0
  v0 := Try.zeroValue0
  t3 := Try.underlying3
  a3 := Try.isAgg3
  z3 := Try.sizeOf3
  v3 := Try.zeroValue3
  t4 := Try.underlying4
  a4 := Try.isAgg4
  z4 := Try.sizeOf4
  v4 := Try.zeroValue4
  t9 := Try.underlying9
  a9 := Try.isAgg9
  z9 := Try.sizeOf9
  v9 := Try.zeroValue9
  t20 := Try.underlying20
  a20 := Try.isAgg20
  z20 := Try.sizeOf20
  v20 := Try.zeroValue20
  t37 := Try.underlying56
  a37 := Try.isAgg56
  z37 := Try.sizeOf56
  v37 := Try.zeroValue56
  t70 := Try.underlying55
  a70 := Try.isAgg55
  z70 := Try.sizeOf55
  v70 := Try.zeroValue55
  t72 := Try.underlying58
  a72 := Try.isAgg58
  z72 := Try.sizeOf58
  v72 := Try.zeroValue58
  t164 := Try.underlying105
  a164 := Try.isAgg105
  z164 := Try.sizeOf105
  v164 := Try.zeroValue105 }
theorem bldLays166 : Go.Proofs.Lays.n166 Try.prog bldRen := {
  mixed := by kernel_rfl
  f166 := Try.func32.trans (congrArg some (by kernel_rfl))
  f240 := Try.func53.trans (congrArg some (by kernel_rfl))
  f276 := Try.func69.trans (congrArg some (by kernel_rfl))
  t0 := Try.underlying0
  a0 := Try.isAgg0
  z0 := Try.sizeOf0
  v0 := Try.zeroValue0
  t3 := Try.underlying3
  a3 := Try.isAgg3
  z3 := Try.sizeOf3
  v3 := Try.zeroValue3
  t4 := Try.underlying4
  a4 := Try.isAgg4
  z4 := Try.sizeOf4
  v4 := Try.zeroValue4
  t9 := Try.underlying9
  a9 := Try.isAgg9
  z9 := Try.sizeOf9
  v9 := Try.zeroValue9
  t20 := Try.underlying20
  a20 := Try.isAgg20
  z20 := Try.sizeOf20
  v20 := Try.zeroValue20
  t37 := Try.underlying56
  a37 := Try.isAgg56
  z37 := Try.sizeOf56
  v37 := Try.zeroValue56
  t70 := Try.underlying55
  a70 := Try.isAgg55
  z70 := Try.sizeOf55
  v70 := Try.zeroValue55
  t72 := Try.underlying58
  a72 := Try.isAgg58
  z72 := Try.sizeOf58
  v72 := Try.zeroValue58
  t75 := Try.underlying63
  a75 := Try.isAgg63
  z75 := Try.sizeOf63
  v75 := Try.zeroValue63
  t164 := Try.underlying105
  a164 := Try.isAgg105
  z164 := Try.sizeOf105
  v164 := Try.zeroValue105 }
theorem bldExtra : Builder.Extra Try.prog bldRen := {
  sizeBuilder := by kernel_rfl
  liesBuilder := by kernel_rfl
  t5 := Try.underlying5
  a5 := Try.isAgg5
  z5 := Try.sizeOf5
  v5 := Try.zeroValue5
  infoByte := by kernel_rfl
  cellsByte := by kernel_rfl
  sizeByte := by kernel_rfl
  neB5 := by decide }
/-- A builder that holds the bytes cs. -/
abbrev Bld (w : World) (B b : Nat) (cs : List Value) : Prop := Lib.IsBuilder 58 5 B b cs w
theorem bgrow_any (B b n : Nat) (w : World) (hB : B ≤ b) (hbk : w.heap[b]? = some (.cells #[.pointer none, .slice none 0 0] 58 (0, 0))) (hBw : B ≤ w.heap.size) (hn : n ≤ 281474976710656) :
    Calls Try.prog 40 #[.pointer (some ⟨b, 0, none⟩), .int .i64 (n : Int)] w fun e w' => e = .returned (.tuple #[]) ∧ Bld w' B b [] ∧ Below B w w' :=
  (Any.Builder_Grow_fresh bldLays165 bldExtra B b n w hB hbk hBw hn).mono fun _ _ ⟨h, k, l⟩ => ⟨h, .inr k, l⟩
theorem bstring_any (B b : Nat) (bs : List Value) (s : ByteArray) (w : World) (h : Bld w B b bs) (hlen : bs.length + s.size ≤ 140737488355328) (hBw : B ≤ w.heap.size) :
    Calls Try.prog 32 #[.pointer (some ⟨b, 0, none⟩), .string s] w fun e w' => e = .returned (.tuple #[.int .i64 s.size, .nilIface]) ∧ Bld w' B b (bs ++ Lib.strCells s) ∧ Below B w w' :=
  (Any.Builder_WriteString bldLays166 bldExtra B b bs s w h hlen hBw).mono fun _ _ ⟨h, k, l⟩ => ⟨h, .inr k, l⟩
theorem blen_any (B b : Nat) (bs : List Value) (w : World) (h : Bld w B b bs) :
    Calls Try.prog 41 #[.pointer (some ⟨b, 0, none⟩)] w fun e w' => e = .returned (.int .i64 (bs.length : Int)) ∧ w = w' :=
  (Any.Builder_Len bldLays170 B b bs w h).mono fun _ _ ⟨h, k⟩ => ⟨h, k.symm⟩
theorem btext_any (B b : Nat) (l : List UInt8) (w : World) (h : Bld w B b (Lib.byteCells l)) (hBw : B ≤ w.heap.size) :
    Calls Try.prog 36 #[.pointer (some ⟨b, 0, none⟩)] w fun e w' => e = .returned (.string ⟨l.toArray⟩) ∧ Below B w w' := Any.Builder_String_any bldLays169 bldExtra B b l w h hBw
theorem Bld.later {w w' : World} {B b : Nat} {cs : List Value} (h : Bld w B b cs) (hb : Below w.heap.size w w') : Bld w' B b cs := by
  have key : ∀ p, Lib.BuilderAt 58 5 B b p cs w → Lib.BuilderAt 58 5 B b p cs w' := by
    rintro p ⟨hB, v, hv, hown, hne⟩
    refine ⟨hB, v, (hb.block b (Array.getElem?_eq_some_iff.1 hv).1).trans hv, ?_, hne⟩
    obtain ⟨h1, h2⟩ := hown
    refine ⟨h1, ?_⟩
    rcases h2 with h2 | ⟨g, cap, cur, hv, hg, hh, r⟩
    · exact Or.inl h2
    · exact Or.inr ⟨g, cap, cur, hv, hg, (hb.block g (Array.getElem?_eq_some_iff.1 hh).1).trans hh, r⟩
  rcases h with h | h
  · exact .inl (key _ h)
  · exact .inr (key _ h)
end Go.Proofs.Ytbecambkjmheiaa
/- (*strings.Builder).WriteString, told block by block: what it turns is the builder's own. -/
namespace Go.Proofs.Ytbecambkjmheiaa
open Go.RowKit Go.Shelf

theorem nappend_str (w : World) (base n : Nat) (v : Value) (xs : List Value) (s : List UInt8) (ty : TypeId) (ho : w.ownsRow base 5 1 v n xs) (hs : n + s.length ≤ 65536) (hb : base ≤ w.heap.size) :
    ∃ v' w', (Builtin.append_ #[56, 9] ty #[v, .string ⟨s.toArray⟩]).run Try.prog w = .ok v' w' ∧ w'.ownsRow base 5 1 v' (n + s.length) (xs ++ Lib.strCells ⟨s.toArray⟩) ∧ w.grownBy w' v.ownBlock ∧ (v'.ownBlock = v.ownBlock ∨ v'.ownBlock = some w.heap.size) := by
  obtain ⟨ti, hi, hz0, hz1, hz2⟩ := info_parts info5
  have hsz := size_of s
  obtain ⟨v', w', hr, h2, h3, h4⟩ := Lib.run_append_own_string (P := Try.prog) w base 56 9 ty 5 ti Try.underlying56 Try.underlying9 hi hz0 hz1 hz2 v n xs ho ⟨s.toArray⟩ (by unfold maxLen; omega) (by omega) hb
  rw [hsz] at h2
  refine ⟨v', w', hr, h2, h3, ?_⟩
  rcases ho.2 with ⟨e1, e2⟩ | ⟨g, cap, cur, e1, e2, e3, e4, e5, e6, e7⟩
  · subst e1
    subst e2
    by_cases h0 : s.length = 0
    · left
      have := h4.2 ⟨rfl, by rw [hsz]; exact h0⟩
      rw [this]
    · right
      have h9 := run_append_nil_string (P := Try.prog) w 56 9 ty 5 ti _ Try.underlying56 Try.underlying9 hi hz0 ⟨s.toArray⟩ (by rw [hsz]; omega) (by rw [hsz]; omega) (by rw [hsz, hz2]; omega)
      have e9 := (Result.ok.inj (hr.symm.trans h9)).1
      subst e9
      simp [Value.ownBlock]
  · subst e1
    by_cases hroom : n + s.length ≤ cap
    · left
      have h9 := Lib.run_append_room_string (P := Try.prog) w 56 9 ty 5 ti Try.underlying56 Try.underlying9 hi hz1 g n cap cur e3 ⟨s.toArray⟩ (by rw [hsz]; omega) (by rw [hsz]; omega)
      have e9 := (Result.ok.inj (hr.symm.trans h9)).1
      subst e9
      simp [Value.ownBlock]
    · right
      have h9 := Lib.run_append_grow_string (P := Try.prog) w 56 9 ty 5 ti _ Try.underlying56 Try.underlying9 hi hz0 ⟨g, 0, none⟩ n cap xs (by rw [hz1]; exact ho.1) (ho.cells (g := g) rfl) ⟨s.toArray⟩ (by rw [hsz]; omega) (by rw [hsz]; omega) (growslice_fits (by rw [hsz]; omega) (by rw [hsz, hz2]; omega))
      have e9 := (Result.ok.inj (hr.symm.trans h9)).1
      subst e9
      simp [Value.ownBlock]
/-- A builder in its block: its bytes lie from a line on. -/
def NBd (w : World) (base b : Nat) (v : Value) (l : List UInt8) : Prop :=
  ∃ p, (p = .pointer none ∨ p = .pointer (some ⟨b, 0, none⟩)) ∧ Blk w b 58 #[p, v] ∧ w.ownsRow base 5 1 v l.length (Lib.byteCells l) ∧ v.ownBlock ≠ some b
theorem NBd.later {w w' : World} {base b : Nat} {v : Value} {l : List UInt8} (h : NBd w base b v l) (hb : Below w.heap.size w w') : NBd w' base b v l := by
  obtain ⟨p, h1, h2, h3, h4⟩ := h
  exact ⟨p, h1, h2.below hb, vown_kept h3 (fun k hk => by obtain ⟨_, cs, hc⟩ := vown_blk h3 k hk; exact hb.block k hc.lt), h4⟩
theorem NBd.bld {w : World} {base b : Nat} {v : Value} {l : List UInt8} (h : NBd w base b v l) (hb : base ≤ b) : Bld w base b (Lib.byteCells l) := by
  obtain ⟨p, h1, h2, h3, h4⟩ := h
  have h5 : w.ownsRow base 5 1 v (Lib.byteCells l).length (Lib.byteCells l) := by
    have : (Lib.byteCells l).length = l.length := by simp [Lib.byteCells]
    rw [this]; exact h3
  rcases h1 with rfl | rfl
  · exact .inl ⟨hb, v, h2, h5, h4⟩
  · exact .inr ⟨hb, v, h2, h5, h4⟩
theorem nccheck_any (b : Nat) (p v : Value) (w : World) (hp : p = .pointer none ∨ p = .pointer (some ⟨b, 0, none⟩)) (hb : Blk w b 58 #[p, v]) :
    Calls Try.prog 53 #[.pointer (some ⟨b, 0, none⟩)] w fun e w' => e = .returned (.tuple #[]) ∧ Blk w' b 58 #[.pointer (some ⟨b, 0, none⟩), v] ∧ Grow (fun k => k = b) w w' ∧ w'.heap.size = w.heap.size := by
  rcases hp with rfl | rfl
  · refine (Any.Builder_copyCheck_fresh (ρ := bldRen) { bldLays166 with } bldExtra.toX72 b w (hb.cell 0) (by simp [World.shape?, show w.heap[b]? = _ from hb]; rfl) (hb.frozen 0)).mono ?_
    rintro e w' ⟨rfl, rfl⟩
    exact ⟨rfl, hb.set_ 0 _, Grow.setCell (X := fun k => k = b) (g := b) (o := 0) rfl w _, by simp [World.setCell]⟩
  · refine (Any.Builder_copyCheck_used (ρ := bldRen) { bldLays166 with } bldExtra.toX72 b w (hb.cell 0)).mono ?_
    rintro e w' ⟨rfl, rfl⟩
    exact ⟨rfl, hb, Grow.refl _ _, rfl⟩

set_option maxRecDepth 100000 in
set_option maxHeartbeats 2000000 in
theorem nwstr_any (base b : Nat) (v : Value) (l s : List UInt8) (w : World) (h : NBd w base b v l) (hs : l.length + s.length ≤ 65536) (hb : base ≤ w.heap.size) :
    Calls Try.prog 32 #[.pointer (some ⟨b, 0, none⟩), sv s] w fun e w' => e = .returned (.tuple #[.int .i64 (s.length : Int), .nilIface]) ∧ ∃ v', NBd w' base b v' (l ++ s) ∧ Grow (fun k => k = b ∨ v.ownBlock = some k) w w' ∧ (v'.ownBlock = v.ownBlock ∨ ∃ k, v'.ownBlock = some k ∧ w.heap.size ≤ k) := by
  obtain ⟨p, hp, hB, ho, hne⟩ := h
  have HC := Lib.hid (nccheck_any b p v w hp hB)
  have HE : Hid (∀ w1, Grow (fun k => k = b) w w1 → w1.heap.size = w.heap.size → Blk w1 b 58 #[.pointer (some ⟨b, 0, none⟩), v] → ∃ v' w', (∀ ty, (Builtin.append_ #[56, 9] ty #[v, .string ⟨s.toArray⟩]).run Try.prog w1 = .ok v' w') ∧ (∃ A n c, v' = .slice A n c) ∧ w'.cell? ⟨b, 1, none⟩ = some v ∧ w'.frozen? ⟨b, 1, none⟩ = false ∧
      NBd (w'.setCell ⟨b, 1, none⟩ v') base b v' (l ++ s) ∧ Grow (fun k => k = b ∨ v.ownBlock = some k) w (w'.setCell ⟨b, 1, none⟩ v') ∧ (v'.ownBlock = v.ownBlock ∨ ∃ k, v'.ownBlock = some k ∧ w.heap.size ≤ k)) := Lib.hid fun w1 hg hsz hB1 => by
    have ho1 : w1.ownsRow base 5 1 v l.length (Lib.byteCells l) := vown_kept ho (fun k hk => hg.block k (by obtain ⟨_, cs, hc⟩ := vown_blk ho k hk; exact hc.lt) (fun e => hne (by rw [hk, e])))
    obtain ⟨v', w', hr, k1, k2, k3⟩ := nappend_str w1 base l.length v (Lib.byteCells l) s 56 ho1 hs (by omega)
    have hr2 : ∀ ty, (Builtin.append_ #[56, 9] ty #[v, .string ⟨s.toArray⟩]).run Try.prog w1 = .ok v' w' := fun ty => hr
    have hB2 : Blk w' b 58 #[.pointer (some ⟨b, 0, none⟩), v] := hB1.grown k2 (fun e => hne e.symm)
    have hne2 : v'.ownBlock ≠ some b := by
      rcases k3 with k3 | k3
      · rw [k3]; exact hne
      · rw [k3]; intro e; injection e with e; have := hB.lt; omega
    have hl2 : (l ++ s).length = l.length + s.length := List.length_append
    have hc2 : Lib.byteCells (l ++ s) = Lib.byteCells l ++ Lib.strCells ⟨s.toArray⟩ := by simp [Lib.byteCells, Lib.strCells]
    refine ⟨v', w', hr2, ?_, hB2.cell 1, hB2.frozen 1, ⟨_, .inr rfl, hB2.set_ 1 v', ?_, hne2⟩, ?_, ?_⟩
    · obtain ⟨A', c', e, _⟩ := own_form k1
      exact ⟨A', _, c', e⟩
    · rw [hl2, hc2]
      exact vown_kept k1 (fun k hk => Below.heap_setCell w' ⟨b, 1, none⟩ v' k (fun e => hne2 (by rw [hk]; exact congrArg some e)))
    · refine ⟨by simp [World.setCell, k2.os, hg.os], by simp [World.setCell, k2.tape, hg.tape], by simp [World.setCell, k2.output, hg.output], by have := k2.size; simp [World.setCell]; omega, fun k hk hn => ?_⟩
      rw [Below.heap_setCell w' ⟨b, 1, none⟩ v' k (fun e => hn (.inl e)), k2.block k (by omega) (fun e => hn (.inr e.symm)), hg.block k hk (fun e => hn (.inl e))]
    · rcases k3 with k3 | k3
      · exact .inl k3
      · exact .inr ⟨_, k3, by omega⟩
  clear hp hB ho hne
  go_enter Try.func32, Try.ntmps32
  go_wp2_with fail
  refine HC.out.mono ?_
  rintro e w1 ⟨rfl, hB1, hg1, hz1⟩
  have c0 : w1.cell? ⟨b, 0, none⟩ = some (.pointer (some ⟨b, 0, none⟩)) := hB1.cell 0
  have c1 : w1.cell? ⟨b, 1, none⟩ = some v := hB1.cell 1
  obtain ⟨v', w', hr, ⟨A', n', c', rfl⟩, d1, f1, k1, k2, k3⟩ := HE.out w1 hg1 hz1 hB1
  have HK := Lib.hid (And.intro k1 (And.intro k2 k3))
  have hsz := size_of s
  clear hB1 hg1 hz1 k1 k2 k3
  go_wp2_with (at_builtin; refine Lib.wpList_append_run _ rfl _ _ 56 9 rfl _ _ rfl rfl _ _ (hr _) ?_)
  go_ret2
  exact ⟨rfl, _, HK.out⟩
end Go.Proofs.Ytbecambkjmheiaa
/- (*strings.Builder).String, told block by block. -/
namespace Go.Proofs.Ytbecambkjmheiaa
open Go.RowKit Go.Shelf

theorem freeze_other (w : World) (g n k : Nat) (h : k ≠ g) : (w.freeze ⟨g, 0, none⟩ n).heap[k]? = w.heap[k]? := by
  unfold World.freeze
  split
  · rfl
  · show (w.heap.modify g _)[k]? = w.heap[k]?
    rw [Array.getElem?_modify, if_neg (fun e => h e.symm)]
set_option maxRecDepth 100000 in
set_option maxHeartbeats 2000000 in
theorem nbtext_any (base b : Nat) (v : Value) (l : List UInt8) (w : World) (h : NBd w base b v l) (hl : l ≠ []) :
    Calls Try.prog 36 #[.pointer (some ⟨b, 0, none⟩)] w fun e w' => e = .returned (sv l) ∧ Below base w w' ∧ ∀ (k : Nat) (o : Obj), w.heap[k]? = some o → o.isCells = false → w'.heap[k]? = some o := by
  obtain ⟨p, hp, hB, hown, hne⟩ := h
  have hl0 : l.length ≠ 0 := by simpa using hl
  obtain ⟨g, cap, cur, rfl, hbg, hg, hnc, hcm, hcs, htake⟩ : ∃ g cap cur, v = .slice (some ⟨g, 0, none⟩) l.length cap ∧ base ≤ g ∧ w.heap[g]? = some (.cells cur 5 (0, 0)) ∧ l.length ≤ cap ∧ cap ≤ maxLen ∧ cur.size = cap * 1 ∧ cur.toList.take (l.length * 1) = Lib.byteCells l := by
    rcases hown.2 with ⟨_, hz⟩ | ⟨g, cap, cur, hv, r⟩
    · exact absurd hz hl0
    · exact ⟨g, cap, cur, hv, r⟩
  have c1 : w.drew.cell? ⟨b, 1, none⟩ = some (.slice (some ⟨g, 0, none⟩) l.length cap) := (Blk.drew hB).cell 1
  have hSD : (Builtin.unsafeSliceData_ #[56] 88 #[.slice (some ⟨g, 0, none⟩) l.length cap]).run Try.prog w.drew = .ok (.pointer (some ⟨g, 0, none⟩)) w.drew :=
    Lib.run_unsafeSliceData_row _ _ _ _ _ _ (by omega)
  have hUS : (Builtin.unsafeString_ #[88, 3] 9 #[.pointer (some ⟨g, 0, none⟩), .int .i64 l.length]).run Try.prog w.drew = .ok (.string ⟨l.toArray⟩) (w.drew.freeze ⟨g, 0, none⟩ l.length) := by
    refine Lib.run_unsafeString_row w.drew 88 3 9 5 Try.underlying88 (by kernel_rfl) g cur.size (by have hg' : w.drew.heap[g]? = some (.cells cur 5 (0, 0)) := hg; simp [World.shape?, hg']) l hl (by omega) (by unfold maxLen at hcm; omega) ?_
    intro j x hx
    exact hown.cells (g := g) rfl j (.int .u8 x.toNat) (by simp [Lib.byteCells, hx])
  have HF : Hid (Below base w (w.drew.freeze ⟨g, 0, none⟩ l.length) ∧ ∀ (k : Nat) (o : Obj), w.heap[k]? = some o → o.isCells = false → (w.drew.freeze ⟨g, 0, none⟩ l.length).heap[k]? = some o) := Lib.hid ⟨Lib.below_freeze (Below.drew (Below.refl base w)) (p := ⟨g, 0, none⟩) hbg _, fun k o hk ho => by
    have hkg : k ≠ g := fun e => by
      subst e
      rw [hg] at hk
      cases hk
      cases ho
    exact (freeze_other w.drew g l.length k hkg).trans hk⟩
  have mixed : Try.prog.follows Departure.mixedOrders = true := by kernel_rfl
  clear hB hown hne hg hnc hcm hcs htake hp hl hl0
  go_enter Try.func36, Try.ntmps36
  go_wp2
  go_region_o
  all_goals (go_wp2; go_ret; exact ⟨rfl, HF.out⟩)
end Go.Proofs.Ytbecambkjmheiaa
