/- Texts of this seat, one behind the other: NClone, NChW. -/
import Derived.Test.YtbecambkjmheiaaQ01
import Derived.Test.YtbecambkjmheiaaQ08
import Derived.Test.YtbecambkjmheiaaQ11
import Derived.Test.YtbecambkjmheiaaQ14
import Derived.Test.YtbecambkjmheiaaQ16
/- slices.Clone of cells; what a change of cells makes; what holds between two rounds of it. -/
namespace Go.Proofs.Ytbecambkjmheiaa
open Go.RowKit Go.Shelf

theorem nown_nil {W : World} {t : TypeId} {g base size : Nat} (h : Blk W g t #[]) (hb : base ≤ g) : W.ownsRow base t size (.slice (some ⟨g, 0, none⟩) 0 0) 0 [] :=
  ⟨by simp, .inr ⟨g, 0, #[], rfl, hb, h, Nat.le_refl _, Nat.zero_le _, by simp, by simp⟩⟩
set_option maxRecDepth 100000 in
set_option maxHeartbeats 1000000 in
theorem nclone_any (A : Option Addr) (c n : Nat) (L : List CL) (w : World) (hA : CR w A L) (hl : L.length = n) (h0 : A = none → c = 0) (hn : n ≤ 65536) :
    Calls Try.prog 46 #[.slice A n c] w fun e w' => ∃ v, e = .returned v ∧ NO w' w.heap.size v n L ∧ Below w.heap.size w w' := by
  cases A with
  | none =>
    have hL : L = [] := by
      cases L with
      | nil => rfl
      | cons x r => obtain ⟨g, off, e, _⟩ := hA 0 (by simp); cases e
    subst hL
    subst hl
    rw [h0 rfl]
    clear h0 hA
    go_enter Try.func46, Try.ntmps46
    have hq := fun (w : World) => Lib.run_eql_slice_nil (P := Try.prog) w 22 45 none 0 0 0 0 Try.underlying22
    go_wp2
    go_ret
    exact ⟨_, rfl, World.ownsRow_nil _ _ _ _, Below.refl _ _⟩
  | some a =>
    clear h0
    obtain ⟨ti, hi, hz0, hz1, hz2⟩ := info_parts infoN
    have HC := Lib.hid ((hA.later (ba (Below.refl w.heap.size w) (.cells #[] 45))).cells)
    have HO : Hid ((w.alloc (.cells #[] 45)).ownsRow w.heap.size 45 3 (.slice (some ⟨w.heap.size, 0, none⟩) 0 0) 0 []) := Lib.hid (nown_nil (Blk.new w _ _) (Nat.le_refl _))
    have HL : Hid ((ccells L).length = n * 3) := Lib.hid (by rw [ccells_len, hl])
    have H1 := Lib.hid (ccells_one L)
    clear hA hl
    go_enter Try.func46, Try.ntmps46
    have hq := fun (w : World) => Lib.run_eql_slice_nil (P := Try.prog) w 22 45 (some a) n c 0 0 Try.underlying22
    go_wp2_with (at_builtin; refine wpList_append_own _ rfl _ _ 22 rfl w.heap.size 45 ti _ 3 32 Try.underlying22 hi hz0 hz1 hz2 rfl (by decide) _ _ _ rfl HO.out a n c (ccells L) rfl HL.out HC.out H1.out (by unfold maxLen; omega) (by omega) (by simp) ?_; intro v3 w3 hown3 hgrow3 _)
    rw [Nat.zero_add] at hown3
    obtain ⟨va, vc, rfl, _⟩ := own_form hown3
    go_ret
    refine ⟨_, rfl, ?_, (ba (Below.refl _ _) _).grown hgrow3 (by simp) (fun k e => (HO.out.lt k e).1)⟩
    simpa using hown3

theorem prefix_range {pre : List Nat} {x K : Nat} (h : (pre ++ [x]) <+: List.range K) : x = pre.length ∧ x < K := by
  have hl := h.length_le
  rw [List.length_append, List.length_singleton, List.length_range] at hl
  have h1 : (pre ++ [x])[pre.length]? = (List.range K)[pre.length]? := by
    obtain ⟨t, ht⟩ := h
    rw [← ht]
    exact (List.getElem?_append_left (by simp)).symm
  rw [List.getElem?_append_right (Nat.le_refl _), Nat.sub_self, List.getElem?_range (by omega)] at h1
  simp at h1
  omega
theorem onlyW_normal {Q : Exit → Act → World → Prop} {a : Act} {w : World} (h : Q .normal a w) : OnlyW Q .normal a w := h
/-- The cells then. -/
def cNow (L : List CL) (f len : Nat) (F : CL → CL) : List CL := if cWhy L f len = 0 then cdo L F (f / 32) (mK f len) else []
/-- Between two rounds. -/
def NCI (b0 : Nat) (w : World) (TB FB : Nat) (fv : Value) (L : List CL) (F : CL → CL) (a : Nat) (pre : List Nat) (Y : Nat → Prop) (V : World) : Prop :=
  ∃ v, Blk V TB 22 #[v] ∧ NO V b0 v (cdo L F a pre.length).length (cdo L F a pre.length) ∧ ¬ Y TB ∧ (∀ k, v.ownBlock = some k → ¬ Y k) ∧ Blk V FB 77 #[fv] ∧ ¬ Y FB ∧ Below b0 w V
section
variable {b0 : Nat} {w : World} {TB FB : Nat} {fv : Value} {L : List CL} {F : CL → CL} {a : Nat} {pre : List Nat} {Y : Nat → Prop} {V V' : World}
theorem NCI.ab (b0 : Nat) (w : World) (TB FB : Nat) (fv : Value) (L : List CL) (F : CL → CL) (a : Nat) : AbN2 b0 (NCI b0 w TB FB fv L F a) := by
  rintro s X V V' ⟨v, h1, h2, h3, h4, h5, h6, h7⟩ hg hb
  have hl := h1.lt
  have hl5 := h5.lt
  refine ⟨v, (hg.block _ hl h3).trans h1, vown_kept h2 (fun k hk => hg.block k (by obtain ⟨_, cs, hc⟩ := vown_blk h2 k hk; exact hc.lt) (h4 k hk)), ?_, ?_, (hg.block _ hl5 h6).trans h5, ?_, h7.trans hb⟩
  · rintro (h | ⟨h, _⟩)
    · exact h3 h
    · omega
  · intro k hk
    obtain ⟨_, cs, hc⟩ := vown_blk h2 k hk
    have := hc.lt
    rintro (h | ⟨h, _⟩)
    · exact h4 k hk h
    · omega
  · rintro (h | ⟨h, _⟩)
    · exact h6 h
    · omega
theorem NCI.below (h : NCI b0 w TB FB fv L F a pre Y V) (hb0 : b0 ≤ V.heap.size) (hb : Below V.heap.size V V') : NCI b0 w TB FB fv L F a pre Y V' := by
  obtain ⟨v, h1, h2, h3, h4, h5, h6, h7⟩ := h
  exact ⟨v, h1.below hb, no_later h2 hb, h3, h4, h5.below hb, h6, h7.trans (hb.mono hb0)⟩
/-- A round's end: a cell put, the row stored in its box. -/
theorem NCI.more {x : Nat} {U w6 : World} {v v6 : Value} (hY : Bd Y V) (hb0 : b0 ≤ w.heap.size) (hB0 : b0 ≤ TB) (h1 : Blk V TB 22 #[v]) (h2 : NO V b0 v (cdo L F a pre.length).length (cdo L F a pre.length)) (h3 : ¬ Y TB) (h4 : ∀ k, v.ownBlock = some k → ¬ Y k) (h5 : Blk V FB 77 #[fv]) (h6 : ¬ Y FB) (h7 : Below b0 w V)
    (hU : Below V.heap.size V U) (g1 : NO w6 b0 v6 (cdo L F a (pre.length + 1)).length (cdo L F a (pre.length + 1))) (g2 : U.grownBy w6 v.ownBlock) (g3 : v6.ownBlock = v.ownBlock ∨ ∃ k, v6.ownBlock = some k ∧ U.heap.size ≤ k) :
    (w6.cell? ⟨TB, 0, none⟩ = some v ∧ w6.frozen? ⟨TB, 0, none⟩ = false) ∧ NCI b0 w TB FB fv L F a (pre ++ [x]) Y (w6.setCell ⟨TB, 0, none⟩ v6) ∧ Keep Y V (w6.setCell ⟨TB, 0, none⟩ v6) := by
  have hown := no_later h2 hU
  have j2 : Blk w6 TB 22 #[v] := (g2.block _ (Nat.lt_of_lt_of_le h1.lt hU.size) (fun e => vown_ne hown (h1.below hU) (by decide) e.symm)).trans (h1.below hU)
  have j5 : Blk w6 FB 77 #[fv] := (g2.block _ (Nat.lt_of_lt_of_le h5.lt hU.size) (fun e => vown_ne hown (h5.below hU) (by decide) e.symm)).trans (h5.below hU)
  have hTF : FB ≠ TB := fun e => by
    subst e
    have e : some (Obj.cells #[v] 22 (0, 0)) = some (Obj.cells #[fv] 77 (0, 0)) := (show V.heap[FB]? = _ from h1).symm.trans h5
    injection e with e
    injection e with e1 e2
    exact absurd e2 (by decide)
  have hkp : Keep Y V w6 := ⟨Nat.le_trans hU.size g2.size, fun k hk => (g2.block k (Nat.lt_of_lt_of_le (hY k hk) hU.size) (fun e => h4 k e.symm hk)).trans (hU.block k (hY k hk))⟩
  have hb6 : Below b0 V w6 := (hU.mono (Nat.le_trans hb0 (Nat.le_trans (by have := h7.size; omega) (Nat.le_refl _)))).grown g2 (Nat.le_trans (Nat.le_trans hb0 h7.size) hU.size) (fun k e => (vown_blk hown k e).1)
  have hne6 : ∀ k, v6.ownBlock = some k → k ≠ TB := fun k hk e => vown_ne g1 j2 (by decide) (by rw [hk, e])
  refine ⟨⟨j2.cell 0, j2.frozen 0⟩, ⟨v6, j2.set_ 0 v6, ?_, h3, ?_, j5.far (p := ⟨TB, 0, none⟩) hTF v6, h6, (h7.trans hb6).setCell (p := ⟨TB, 0, none⟩) hB0 v6⟩, ?_⟩
  · rw [List.length_append, List.length_singleton]
    exact vown_kept g1 (fun k hk => Below.heap_setCell w6 ⟨TB, 0, none⟩ v6 k (hne6 k hk))
  · intro k hk hy
    rcases g3 with e | ⟨m, e, hm⟩
    · exact h4 k (by rw [← e]; exact hk) hy
    · rw [e] at hk
      injection hk with hk
      have := hY k hy
      have := hU.size
      omega
  · exact Keep.setCell hkp h3 v6
end
end Go.Proofs.Ytbecambkjmheiaa
/- The contract of changed, at one of the four changes. -/
namespace Go.Proofs.Ytbecambkjmheiaa
open Go.RowKit Go.Shelf
attribute [local go_sem] Oper.semAt_some

set_option maxRecDepth 100000 in
set_option maxHeartbeats 2000000 in
theorem nchW_no (bd bf : Nat) (A : Option Addr) (n c f len : Nat) (L : List CL) (w : World) (hA : CR w A L) (hl : L.length = n) (hn : n ≤ 65536) (hf : f < 18446744073709551616) (hm : len < 18446744073709551616) (h : cWhy L f len ≠ 0) :
    Calls Try.prog 25 #[.slice A n c, .agg #[vu f, vu len], .func (.func 18) #[] #[.pointer (some ⟨bd, 0, none⟩), .pointer (some ⟨bf, 0, none⟩)]] w fun e w' => e = .returned (.tuple #[.slice none 0 0, .int .i64 (cWhy L f len)]) ∧ Below w.heap.size w w' := by
  have HC := Lib.hid (fun W (hb : Below w.heap.size w W) => ncheck_any A n c f len L W (hA.later hb) hl hn hf hm)
  generalize cWhy L f len = E at *
  have hE : decide (E = 0) = false := by simpa using h
  clear hA hl
  go_enter Try.func25, Try.ntmps25
  go_wp2_with fail
  refine (HC.out _ (ba (ba (Below.refl _ _) _) _)).mono ?_
  rintro e w1 ⟨rfl, hb1⟩
  have HB := Lib.hid (bt (ba (ba (Below.refl w.heap.size w) _) _) hb1)
  clear hb1
  go_wp2
  go_ret2
  exact ⟨rfl, HB.out⟩

set_option maxRecDepth 100000 in
set_option maxHeartbeats 8000000 in
theorem nchW_yes (bd bf : Nat) (A : Option Addr) (n c f len : Nat) (L : List CL) (F : CL → CL) (w : World) (hA : CR w A L) (hl : L.length = n) (h0 : A = none → c = 0) (hR : CRt L) (h1 : 1 ≤ len) (h2 : len ≤ 224) (h3 : f + len ≤ 18446744073709551616) (hB : ByF w 18 #[.pointer (some ⟨bd, 0, none⟩), .pointer (some ⟨bf, 0, none⟩)] F f len) (hF : ∀ c, (F c).n = c.n) :
    Calls Try.prog 25 #[.slice A n c, .agg #[vu f, vu len], .func (.func 18) #[] #[.pointer (some ⟨bd, 0, none⟩), .pointer (some ⟨bf, 0, none⟩)]] w fun e w' => ∃ B d, e = .returned (.tuple #[.slice B (cdo L F (f / 32) (mK f len)).length d, .int .i64 0]) ∧ ((cdo L F (f / 32) (mK f len)).length ≤ d ∧ (B = none → d = 0)) ∧ CR w' B (cdo L F (f / 32) (mK f len)) ∧ Below w.heap.size w w' := by
  have hE : cWhy L f len = 0 := cWhy_ok.2 ⟨hR, h1, h2, h3⟩
  have hn : n ≤ 64 := by rw [← hl]; exact hR.1
  have HC : Hid (∀ W, Below w.heap.size w W → Calls Try.prog 30 #[.slice A n c, .agg #[vu f, vu len]] W fun e w' => e = .returned (.int .i64 0) ∧ Below W.heap.size W w') := Lib.hid (fun W hb => by
    have := ncheck_any A n c f len L W (hA.later hb) hl (by omega) (by omega) (by omega)
    rw [hE] at this
    exact this)
  have HCl := Lib.hid (fun W (hb : Below w.heap.size w W) => nclone_any A c n L W (hA.later hb) hl h0 (by omega))
  have HS : Hid (CRt L ∧ CS L ∧ L.length ≤ 64) := Lib.hid ⟨hR, cup_cs hR.2.2, hR.1⟩
  have HN : Hid (1 ≤ len ∧ len ≤ 224 ∧ f + len ≤ 18446744073709551616) := Lib.hid ⟨h1, h2, h3⟩
  have HBy := Lib.hid hB
  have HF := Lib.hid hF
  have HK8 := Lib.hid (mK_8 (f := f) h2)
  have HL := Lib.hid hl
  clear hA hl h0 hE hR h1 h2 h3 hB hF hn
  refine (callsIn_wide (n := 6)).1 ?_
  refine callsIn_of_wp_marks Try.func25 rfl trivial ?_ rfl
  simp only [Try.ntmps25, List.size_toArray, List.length_cons, List.length_nil, Nat.reduceAdd, Nat.reduceSub, Array.replicate_succ, Array.replicate_zero, List.push_toArray, List.append_toArray, List.nil_append, List.cons_append]
  gi_wp2_with fail
  refine ⟨trivial, ?_⟩
  refine (callsIn_wide.2 (HC.out _ (ba (ba (Below.refl _ _) _) _))).mono ?_
  rintro e w1 ⟨rfl, hb1⟩
  have HSB1 := Lib.hid (((Blk.new w 25 #[vu f, vu len]).alloc (.cells #[.func (.func 18) #[] #[.pointer (some ⟨bd, 0, none⟩), .pointer (some ⟨bf, 0, none⟩)]] 77)).below hb1)
  have HFB1 := Lib.hid ((Blk.newAt (w := w.alloc (.cells #[vu f, vu len] 25)) (g := w.heap.size + 1) (by simp) 77 #[.func (.func 18) #[] #[.pointer (some ⟨bd, 0, none⟩), .pointer (some ⟨bf, 0, none⟩)]]).below hb1)
  have HB1 := Lib.hid (bt (ba (ba (Below.refl w.heap.size w) _) _) hb1)
  clear hb1
  gi_wp2_with fail
  refine ⟨trivial, ?_⟩
  refine (callsIn_wide.2 (HCl.out _ HB1.out)).mono ?_
  rintro e w2 ⟨v0, rfl, hno, hb2⟩
  obtain ⟨va, vc, rfl, hvf⟩ := own_form hno
  clear hvf
  have HNO := Lib.hid hno
  have HSB2 := Lib.hid (HSB1.out.below hb2)
  have HFB2 := Lib.hid (HFB1.out.below hb2)
  have HB2 := Lib.hid (bt HB1.out hb2)
  have HZ : Hid (w1.heap.size ≤ w2.heap.size ∧ w.heap.size + 2 ≤ w1.heap.size) := Lib.hid ⟨hb2.size, by have := HFB1.out.lt; omega⟩
  clear hb2 hno HSB1 HFB1
  have q0 : (w2.alloc (.cells #[.slice va n vc] 22)).cell? ⟨w.heap.size, 0, none⟩ = some (vu f) := (HSB2.out.alloc _).cell 0
  have q1 : (w2.alloc (.cells #[.slice va n vc] 22)).cell? ⟨w.heap.size, 1, none⟩ = some (vu len) := (HSB2.out.alloc _).cell 1
  gi_wp2_with fail
  refine ⟨trivial, ?_⟩
  refine (callsIn_wide.2 (nmet_any f len _)).mono ?_
  rintro e w3 ⟨rfl, rfl⟩
  clear q0 q1
  gi_wp2_with fail
  -- LOOP
  have HW0 : Hid (Below w2.heap.size w2 ((w2.alloc (.cells #[.slice va n vc] 22)).alloc (.cells #[vu f, vu len] 25)) ∧ Blk ((w2.alloc (.cells #[.slice va n vc] 22)).alloc (.cells #[vu f, vu len] 25)) w2.heap.size 22 #[.slice va n vc] ∧ Blk ((w2.alloc (.cells #[.slice va n vc] 22)).alloc (.cells #[vu f, vu len] 25)) (w2.heap.size + 1) 25 #[vu f, vu len] ∧ ((w2.alloc (.cells #[.slice va n vc] 22)).alloc (.cells #[vu f, vu len] 25)).heap.size = w2.heap.size + 2) := Lib.hid ⟨ba (ba (Below.refl _ _) _) _, (Blk.new _ _ _).alloc _, Blk.newAt (by simp) _ _, by simp⟩
  have hz2 : (w2.alloc (.cells #[.slice va n vc] 22)).heap.size = w2.heap.size + 1 := by simp
  try rw [hz2]
  generalize ((w2.alloc (.cells #[.slice va n vc] 22)).alloc (.cells #[vu f, vu len] 25)) = W0 at HW0 ⊢
  clear hz2
  have HB0 := Lib.hid (bt HB2.out HW0.out.1)
  have HFB0 := Lib.hid (HFB2.out.below HW0.out.1)
  have HNO0 := Lib.hid (no_later HNO.out HW0.out.1)
  have hz9 := HW0.out.2.2.2
  have hzz := HZ.out
  have HCS : Hid (cdo L F (f / 32) 0 = L) := Lib.hid (cdo_zero HS.out.2.1)
  have HI0 : Hid (NCI w.heap.size w w2.heap.size (w.heap.size + 1) (.func (.func 18) #[] #[.pointer (some ⟨bd, 0, none⟩), .pointer (some ⟨bf, 0, none⟩)]) L F (f / 32) [] (fun k => k = w2.heap.size + 1) W0) := Lib.hid (by
    refine ⟨_, HW0.out.2.1, ?_, fun h => by omega, fun k hk => ?_, HFB0.out, fun h => by omega, HB0.out⟩
    · rw [List.length_nil, HCS.out, HL.out]
      obtain ⟨k1, k2⟩ := HNO0.out
      refine ⟨k1, ?_⟩
      rcases k2 with k2 | ⟨g, cap, cur, e1, e2, e3⟩
      · exact .inl k2
      · exact .inr ⟨g, cap, cur, e1, by omega, e3⟩
    · have := (no_lt HNO.out hk).2
      omega)
  have HH : Hid (HandsN2 w.heap.size 5 50 #[.pointer (some ⟨w2.heap.size + 1, 0, none⟩)] (me1 f) (me2 f len) (List.range (mK f len)) (fun k => k = w2.heap.size + 1) W0) := Lib.hid (nmet_hands w.heap.size 5 (by omega) (w2.heap.size + 1) f len W0 HW0.out.2.2.1 HN.out.1 HN.out.2.1 HN.out.2.2)
  refine range_n2 (n := 6) (b0 := w.heap.size) (w0 := W0) (by omega) (gf := 50) (lb := #[.pointer (some ⟨w2.heap.size + 1, 0, none⟩)]) rfl nmet_enters (enc := me1 f) (enc2 := me2 f len) (zs := List.range (mK f len)) (X0 := (fun k => k = w2.heap.size + 1)) (by omega) HH.out (fun k hk => ⟨by omega, rfl⟩) (NCI w.heap.size w w2.heap.size (w.heap.size + 1) (.func (.func 18) #[] #[.pointer (some ⟨bd, 0, none⟩), .pointer (some ⟨bf, 0, none⟩)]) L F (f / 32)) (NCI.ab _ _ _ _ _ _ _ _) HI0.out
    (fun x a' V => ∃ Bp, Blk V Bp 25 #[vu (m0 f x), vu (mL f len x)] ∧ a' = { tmps := #[.slice A n c, .agg #[vu f, vu len], .func (.func 18) #[] #[.pointer (some ⟨bd, 0, none⟩), .pointer (some ⟨bf, 0, none⟩)], undef, .pointer (some ⟨w.heap.size, 0, none⟩), .pointer (some ⟨w.heap.size + 1, 0, none⟩), .slice none 0 0, .int .i64 0, .int .i64 0, .pointer (some ⟨w2.heap.size, 0, none⟩), me1 f x, .pointer (some ⟨Bp, 0, none⟩), .slice A n c, .agg #[vu f, vu len], .int .i64 0, .int .i64 0, .bool false, undef, .slice A n c, .slice va n vc, .agg #[vu f, vu len], .func (.func 50) #[] #[.pointer (some ⟨w2.heap.size + 1, 0, none⟩)], me1 f x, me2 f len x, undef, undef, undef, undef, undef, undef, undef, undef, undef], defers := [] })
    (fun x a' V' k o o' hs hl ho hc => by
      obtain ⟨Bp, h1, h2⟩ := hs
      exact ⟨Bp, vblk_putObj h1 ho hc, h2⟩)
    ?assign ?body ?done
  case assign =>
    rintro l9 pre x Y V' K hI hbY _ _ hK
    have HI2 : Hid (NCI w.heap.size w w2.heap.size (w.heap.size + 1) (.func (.func 18) #[] #[.pointer (some ⟨bd, 0, none⟩), .pointer (some ⟨bf, 0, none⟩)]) L F (f / 32) pre Y (V'.alloc (.cells #[vu (m0 f x), vu (mL f len x)] 25))) := Lib.hid (hI.below (by obtain ⟨_, _, _, _, _, _, _, h5⟩ := hI; exact h5.size) (ba (Below.refl _ _) _))
    have HKP : Hid (Keep Y V' (V'.alloc (.cells #[vu (m0 f x), vu (mL f len x)] 25))) := Lib.hid (Keep.of_below (ba (Below.refl _ _) _) hbY)
    have HBP := Lib.hid (Blk.new V' 25 #[vu (m0 f x), vu (mL f len x)])
    clear hI hbY
    gi_wp2
    exact hK _ _ HI2.out HKP.out ⟨V'.heap.size, HBP.out, rfl⟩
  case body =>
    rintro l9 pre x a' Y V' hl9 ⟨v, i1, i2, i3, i4, i5, i6, i7⟩ hbY ⟨Bp, hbp, rfl⟩ hpre
    have HPX : Hid (x = pre.length ∧ x < mK f len) := Lib.hid (prefix_range hpre)
    have hxk := HPX.out
    obtain ⟨vA, vC, rfl, hvf⟩ := own_form i2
    clear hvf
    have HLN : Hid ((cdo L F (f / 32) pre.length).length ≤ 4000) := Lib.hid (by
      have h1 := cdo_len1 (a := f / 32) (k := pre.length) HS.out.2.1 HF.out
      have h2 := HS.out.2.2
      have h3 := HK8.out
      omega)
    have HU : Hid (CUp (cdo L F (f / 32) pre.length)) := Lib.hid (cs_cup (cdo_cs HS.out.2.1 HF.out))
    have HCA : Hid (∀ W, Below V'.heap.size V' W → Calls Try.prog 34 #[.slice vA (cdo L F (f / 32) pre.length).length vC, vu (f / 32 + x)] W fun e w' => e = .returned (cv (cAt L (f / 32 + x))) ∧ Below W.heap.size W w') := Lib.hid fun W hb => by
      have := ncellAt_any vA (cdo L F (f / 32) pre.length).length vC (f / 32 + x) (cdo L F (f / 32) pre.length) W ((no_read i2).later hb) rfl HU.out (by have := HLN.out; omega)
      rw [cat_cdo_out HS.out.2.1 HF.out (by omega)] at this
      exact this
    have HCB : Hid (∀ W, Below V'.heap.size V' W → Calls Try.prog 18 (#[cv (cAt L (f / 32 + x)), me2 f len x] ++ #[.pointer (some ⟨bd, 0, none⟩), .pointer (some ⟨bf, 0, none⟩)]) W fun e w' => e = .returned (cv (F (cAt L (f / 32 + x)))) ∧ Below W.heap.size W w') := Lib.hid fun W hb => by
      refine HBy.out W (i7.trans (hb.mono i7.size)) (cAt L (f / 32 + x)) x hxk.2 (cat_n _ _) ?_
      rcases cat_ok HS.out.1 (f / 32 + x) with h | h
      · exact .inl h
      · exact .inr (by rw [cat_n]; exact h)
    have HCP : Hid (∀ W, Below V'.heap.size V' W → Calls Try.prog 47 #[.slice vA (cdo L F (f / 32) pre.length).length vC, cv (F (cAt L (f / 32 + x)))] W fun e w' => ∃ v', e = .returned v' ∧ NO w' w.heap.size v' (cdo L F (f / 32) (pre.length + 1)).length (cdo L F (f / 32) (pre.length + 1)) ∧ W.grownBy w' (Value.slice vA (cdo L F (f / 32) pre.length).length vC).ownBlock ∧ (v'.ownBlock = (Value.slice vA (cdo L F (f / 32) pre.length).length vC).ownBlock ∨ ∃ k, v'.ownBlock = some k ∧ W.heap.size ≤ k)) := Lib.hid fun W hb => by
      have := nput_any vA (cdo L F (f / 32) pre.length).length vC w.heap.size (cdo L F (f / 32) pre.length) (F (cAt L (f / 32 + x))) W (no_later i2 hb) HU.out HLN.out (Nat.le_trans i7.size hb.size)
      rw [hxk.1, cdo_step HF.out] at this
      rw [hxk.1]
      exact this
    have hdist : Bp ≠ w2.heap.size ∧ w.heap.size + 1 ≠ w2.heap.size ∧ (Value.slice vA (cdo L F (f / 32) pre.length).length vC).ownBlock ≠ some Bp ∧ (Value.slice vA (cdo L F (f / 32) pre.length).length vC).ownBlock ≠ some (w.heap.size + 1) := by
      refine ⟨fun e => ?_, by omega, vown_ne i2 hbp (by decide), vown_ne i2 i5 (by decide)⟩
      subst e
      have e : some (Obj.cells #[vu (m0 f x), vu (mL f len x)] 25 (0, 0)) = some (Obj.cells #[.slice vA (cdo L F (f / 32) pre.length).length vC] 22 (0, 0)) := (show V'.heap[w2.heap.size]? = _ from hbp).symm.trans i1
      injection e with e
      injection e with e1 e2
      exact absurd e2 (by decide)
    have HEND : Hid (∀ (U w6 : World) (v6 : Value), Below V'.heap.size V' U → NO w6 w.heap.size v6 (cdo L F (f / 32) (pre.length + 1)).length (cdo L F (f / 32) (pre.length + 1)) → U.grownBy w6 (Value.slice vA (cdo L F (f / 32) pre.length).length vC).ownBlock → (v6.ownBlock = (Value.slice vA (cdo L F (f / 32) pre.length).length vC).ownBlock ∨ ∃ k, v6.ownBlock = some k ∧ U.heap.size ≤ k) →
        ((w6.cell? ⟨w2.heap.size, 0, none⟩ = some (.slice vA (cdo L F (f / 32) pre.length).length vC) ∧ w6.frozen? ⟨w2.heap.size, 0, none⟩ = false) ∧ NCI w.heap.size w w2.heap.size (w.heap.size + 1) (.func (.func 18) #[] #[.pointer (some ⟨bd, 0, none⟩), .pointer (some ⟨bf, 0, none⟩)]) L F (f / 32) (pre ++ [x]) Y (w6.setCell ⟨w2.heap.size, 0, none⟩ v6) ∧ Keep Y V' (w6.setCell ⟨w2.heap.size, 0, none⟩ v6)) ∧
        (Blk w6 (w.heap.size + 1) 77 #[.func (.func 18) #[] #[.pointer (some ⟨bd, 0, none⟩), .pointer (some ⟨bf, 0, none⟩)]] ∧ Blk w6 Bp 25 #[vu (m0 f x), vu (mL f len x)]) ∧ Blk (w6.setCell ⟨w2.heap.size, 0, none⟩ v6) (w.heap.size + 1) 77 #[.func (.func 18) #[] #[.pointer (some ⟨bd, 0, none⟩), .pointer (some ⟨bf, 0, none⟩)]] ∧ Blk (w6.setCell ⟨w2.heap.size, 0, none⟩ v6) Bp 25 #[vu (m0 f x), vu (mL f len x)]) := Lib.hid fun U w6 v6 hU g1 g2 g3 => by
      have k1 : Blk w6 (w.heap.size + 1) 77 #[.func (.func 18) #[] #[.pointer (some ⟨bd, 0, none⟩), .pointer (some ⟨bf, 0, none⟩)]] := (i5.below hU).grown g2 (fun e => hdist.2.2.2 e.symm)
      have k2 : Blk w6 Bp 25 #[vu (m0 f x), vu (mL f len x)] := (hbp.below hU).grown g2 (fun e => hdist.2.2.1 e.symm)
      exact ⟨NCI.more hbY (Nat.le_refl _) (by omega) i1 i2 i3 i4 i5 i6 i7 hU g1 g2 g3, ⟨k1, k2⟩, k1.far (p := ⟨w2.heap.size, 0, none⟩) hdist.2.1 v6, k2.far (p := ⟨w2.heap.size, 0, none⟩) hdist.1 v6⟩
    have t0 : V'.cell? ⟨w2.heap.size, 0, none⟩ = some (.slice vA (cdo L F (f / 32) pre.length).length vC) := i1.cell 0
    have f0 : V'.cell? ⟨w.heap.size + 1, 0, none⟩ = some (.func (.func 18) #[] #[.pointer (some ⟨bd, 0, none⟩), .pointer (some ⟨bf, 0, none⟩)]) := i5.cell 0
    have p0 : V'.cell? ⟨Bp, 0, none⟩ = some (vu (m0 f x)) := hbp.cell 0
    have p1 : V'.cell? ⟨Bp, 1, none⟩ = some (vu (mL f len x)) := hbp.cell 1
    clear i1 i2 i3 i4 i5 i6 i7 hbY hbp hpre hdist HU HLN
    generalize hM : (cdo L F (f / 32) pre.length).length = M at HCA HCP HEND t0
    clear hM
    have HBV := Lib.hid ((Below.refl V'.heap.size V').drew)
    clear hxk
    gi_wp2_with fail
    refine region_round_held (S := fun W => W.cell? ⟨w.heap.size + 1, 0, none⟩ = some (.func (.func 18) #[] #[.pointer (some ⟨bd, 0, none⟩), .pointer (some ⟨bf, 0, none⟩)]) ∧ W.cell? ⟨Bp, 0, none⟩ = some (vu (m0 f x)) ∧ W.cell? ⟨Bp, 1, none⟩ = some (vu (mL f len x))) (by kernel_rfl) (by kernel_rfl) ⟨f0, p0, p1⟩ (fun hHeld => ?_)
    refine wpAnyH_take (i := 1) (oi := ⟨some 25, _, _, _, _, _⟩) (v := .func (.func 18) #[] #[.pointer (some ⟨bd, 0, none⟩), .pointer (some ⟨bf, 0, none⟩)]) rfl (by kernel_rfl) (by kernel_rfl) (by kernel_rfl) (fun _ _ _ h => h) (Or.inl ⟨by rfl, ?_⟩) (by assumption) ?_
    · (intro w9 hSw; obtain ⟨s0, s1, s2⟩ := hSw; (try dsimp only at hSw); go_simp; try with_reducible rfl)
    try simp only [Act.put, List.setIfInBounds_toArray, List.set_cons_zero, List.set_cons_succ]
    refine wpAnyH_take (i := 3) (oi := ⟨some 27, _, _, _, _, _⟩) (v := ?_) rfl (by kernel_rfl) (by kernel_rfl) (by kernel_rfl) (fun _ _ _ h => h) (Or.inl ⟨by rfl, ?_⟩) (by assumption) ?_
    rotate_left
    · (intro w9 hSw; (try dsimp only at hSw); go_simp; try with_reducible rfl)
    try simp only [Act.put, List.setIfInBounds_toArray, List.set_cons_zero, List.set_cons_succ]
    refine wpAnyH_take (i := 5) (oi := ⟨some 29, _, _, _, _, _⟩) (v := me2 f len x) rfl (by kernel_rfl) (by kernel_rfl) (by kernel_rfl) (fun _ _ _ h => h) (Or.inl ⟨by rfl, ?_⟩) (by assumption) ?_
    · (intro w9 hSw; obtain ⟨s0, s1, s2⟩ := hSw; (try dsimp only at hSw); go_simp; try with_reducible rfl)
    try simp only [Act.put, List.setIfInBounds_toArray, List.set_cons_zero, List.set_cons_succ]
    refine wpAnyH_ready (rs := [0, 2]) (by kernel_rfl) (by simp) ?_
    refine AllReadyH.cons (o := ⟨some 24, _, _, _, _, _⟩) rfl (fun K9 hK9 => ?_) ?_
    · skip
      go_simp
      refine hK9.out _ _ ?_ (fun hHeld => ?_)
      · assumption
      clear hK9 K9
      try simp only [Act.put, List.setIfInBounds_toArray, List.set_cons_zero, List.set_cons_succ]
      refine wpAnyH_ready (rs := [2]) (by kernel_rfl) (by simp) ?_
      refine AllReadyH.cons (o := ⟨some 26, _, _, _, _, _⟩) rfl (fun K9 hK9 => ?_) AllReadyH.nil
      go_simp
      refine hK9.out _ _ ?_ (fun hHeld => ?_)
      · assumption
      clear hK9 K9
      try simp only [Act.put, List.setIfInBounds_toArray, List.set_cons_zero, List.set_cons_succ]
      refine wpAnyH_ready (rs := [4]) (by kernel_rfl) (by simp) ?_
      refine AllReadyH.cons (o := ⟨some 28, _, _, _, _, _⟩) rfl (fun K9 hK9 => ?_) AllReadyH.nil
      go_simp; go_at_call 34
      refine (HCA.out _ HBV.out).mono ?_
      rintro e u1 ⟨rfl, ub1⟩
      have UB1 := Lib.hid (bt HBV.out ub1)
      have t1 : u1.cell? ⟨w2.heap.size, 0, none⟩ = some (.slice vA M vC) := cell_later ub1 t0
      refine hK9.out _ _ ?_ (fun hHeld => ?_)
      · exact ⟨cell_later ub1 f0, cell_later ub1 p0, cell_later ub1 p1⟩
      clear hK9 K9
      try simp only [Act.put, List.setIfInBounds_toArray, List.set_cons_zero, List.set_cons_succ]
      refine wpAnyH_ready (rs := [6]) (by kernel_rfl) (by simp) ?_
      refine AllReadyH.cons (o := ⟨some 30, _, _, _, _, _⟩) rfl (fun K9 hK9 => ?_) AllReadyH.nil
      go_simp; go_at_call 18
      refine (HCB.out _ UB1.out).mono ?_
      rintro e u2 ⟨rfl, ub2⟩
      have UB2 := Lib.hid (bt UB1.out ub2)
      have t2 : u2.cell? ⟨w2.heap.size, 0, none⟩ = some (.slice vA M vC) := cell_later ub2 t1
      refine hK9.out _ _ ?_ (fun hHeld => ?_)
      · exact ⟨cell_later (bt ub1 ub2) f0, cell_later (bt ub1 ub2) p0, cell_later (bt ub1 ub2) p1⟩
      clear hK9 K9
      try simp only [Act.put, List.setIfInBounds_toArray, List.set_cons_zero, List.set_cons_succ]
      refine wpAnyH_ready (rs := [7]) (by kernel_rfl) (by simp) ?_
      refine AllReadyH.cons (o := ⟨some 31, _, _, _, _, _⟩) rfl (fun K9 hK9 => ?_) AllReadyH.nil
      go_simp; go_at_call 47
      refine (HCP.out _ UB2.out).mono ?_
      rintro e u3 ⟨v6, rfl, g1, g2, g3⟩
      obtain ⟨g6, d6, rfl, gf⟩ := own_form g1
      have HE := Lib.hid (HEND.out _ _ _ UB2.out g1 g2 g3)
      have t3 := HE.out.1.1.1
      have z3 := HE.out.1.1.2
      clear g1 g2 g3 gf
      refine hK9.out _ _ ?_ (fun hHeld => ?_)
      · exact ⟨HE.out.2.1.1.cell 0, HE.out.2.1.2.cell 0, HE.out.2.1.2.cell 1⟩
      clear hK9 K9
      try simp only [Act.put, List.setIfInBounds_toArray, List.set_cons_zero, List.set_cons_succ]
      refine wpAnyH_ready (rs := [8]) (by kernel_rfl) (by simp) ?_
      refine AllReadyH.cons (o := ⟨none, _, _, _, _, _⟩) rfl (fun K9 hK9 => ?_) AllReadyH.nil
      go_simp
      refine hK9.out _ _ ?_ (fun hHeld => ?_)
      · exact ⟨HE.out.2.2.1.cell 0, HE.out.2.2.2.cell 0, HE.out.2.2.2.cell 1⟩
      clear hK9 K9
      try simp only [Act.put]
      refine wpAnyH_done (by kernel_rfl) ?_ _
      refine onlyW_normal ?_
      gi_wp2_with fail
      exact HE.out.1.2
    refine AllReadyH.cons (o := ⟨some 26, _, _, _, _, _⟩) rfl (fun K9 hK9 => ?_) AllReadyH.nil
    · skip
      go_simp
      refine hK9.out _ _ ?_ (fun hHeld => ?_)
      · assumption
      clear hK9 K9
      try simp only [Act.put, List.setIfInBounds_toArray, List.set_cons_zero, List.set_cons_succ]
      refine wpAnyH_ready (rs := [0, 4]) (by kernel_rfl) (by simp) ?_
      refine AllReadyH.cons (o := ⟨some 24, _, _, _, _, _⟩) rfl (fun K9 hK9 => ?_) ?_
      · skip
        go_simp
        refine hK9.out _ _ ?_ (fun hHeld => ?_)
        · assumption
        clear hK9 K9
        try simp only [Act.put, List.setIfInBounds_toArray, List.set_cons_zero, List.set_cons_succ]
        refine wpAnyH_ready (rs := [4]) (by kernel_rfl) (by simp) ?_
        refine AllReadyH.cons (o := ⟨some 28, _, _, _, _, _⟩) rfl (fun K9 hK9 => ?_) AllReadyH.nil
        go_simp; go_at_call 34
        refine (HCA.out _ HBV.out).mono ?_
        rintro e u1 ⟨rfl, ub1⟩
        have UB1 := Lib.hid (bt HBV.out ub1)
        have t1 : u1.cell? ⟨w2.heap.size, 0, none⟩ = some (.slice vA M vC) := cell_later ub1 t0
        refine hK9.out _ _ ?_ (fun hHeld => ?_)
        · exact ⟨cell_later ub1 f0, cell_later ub1 p0, cell_later ub1 p1⟩
        clear hK9 K9
        try simp only [Act.put, List.setIfInBounds_toArray, List.set_cons_zero, List.set_cons_succ]
        refine wpAnyH_ready (rs := [6]) (by kernel_rfl) (by simp) ?_
        refine AllReadyH.cons (o := ⟨some 30, _, _, _, _, _⟩) rfl (fun K9 hK9 => ?_) AllReadyH.nil
        go_simp; go_at_call 18
        refine (HCB.out _ UB1.out).mono ?_
        rintro e u2 ⟨rfl, ub2⟩
        have UB2 := Lib.hid (bt UB1.out ub2)
        have t2 : u2.cell? ⟨w2.heap.size, 0, none⟩ = some (.slice vA M vC) := cell_later ub2 t1
        refine hK9.out _ _ ?_ (fun hHeld => ?_)
        · exact ⟨cell_later (bt ub1 ub2) f0, cell_later (bt ub1 ub2) p0, cell_later (bt ub1 ub2) p1⟩
        clear hK9 K9
        try simp only [Act.put, List.setIfInBounds_toArray, List.set_cons_zero, List.set_cons_succ]
        refine wpAnyH_ready (rs := [7]) (by kernel_rfl) (by simp) ?_
        refine AllReadyH.cons (o := ⟨some 31, _, _, _, _, _⟩) rfl (fun K9 hK9 => ?_) AllReadyH.nil
        go_simp; go_at_call 47
        refine (HCP.out _ UB2.out).mono ?_
        rintro e u3 ⟨v6, rfl, g1, g2, g3⟩
        obtain ⟨g6, d6, rfl, gf⟩ := own_form g1
        have HE := Lib.hid (HEND.out _ _ _ UB2.out g1 g2 g3)
        have t3 := HE.out.1.1.1
        have z3 := HE.out.1.1.2
        clear g1 g2 g3 gf
        refine hK9.out _ _ ?_ (fun hHeld => ?_)
        · exact ⟨HE.out.2.1.1.cell 0, HE.out.2.1.2.cell 0, HE.out.2.1.2.cell 1⟩
        clear hK9 K9
        try simp only [Act.put, List.setIfInBounds_toArray, List.set_cons_zero, List.set_cons_succ]
        refine wpAnyH_ready (rs := [8]) (by kernel_rfl) (by simp) ?_
        refine AllReadyH.cons (o := ⟨none, _, _, _, _, _⟩) rfl (fun K9 hK9 => ?_) AllReadyH.nil
        go_simp
        refine hK9.out _ _ ?_ (fun hHeld => ?_)
        · exact ⟨HE.out.2.2.1.cell 0, HE.out.2.2.2.cell 0, HE.out.2.2.2.cell 1⟩
        clear hK9 K9
        try simp only [Act.put]
        refine wpAnyH_done (by kernel_rfl) ?_ _
        refine onlyW_normal ?_
        gi_wp2_with fail
        exact HE.out.1.2
      refine AllReadyH.cons (o := ⟨some 28, _, _, _, _, _⟩) rfl (fun K9 hK9 => ?_) AllReadyH.nil
      · skip
        go_simp; go_at_call 34
        refine (HCA.out _ HBV.out).mono ?_
        rintro e u1 ⟨rfl, ub1⟩
        have UB1 := Lib.hid (bt HBV.out ub1)
        have t1 : u1.cell? ⟨w2.heap.size, 0, none⟩ = some (.slice vA M vC) := cell_later ub1 t0
        refine hK9.out _ _ ?_ (fun hHeld => ?_)
        · exact ⟨cell_later ub1 f0, cell_later ub1 p0, cell_later ub1 p1⟩
        clear hK9 K9
        try simp only [Act.put, List.setIfInBounds_toArray, List.set_cons_zero, List.set_cons_succ]
        refine wpAnyH_ready (rs := [0, 6]) (by kernel_rfl) (by simp) ?_
        refine AllReadyH.cons (o := ⟨some 24, _, _, _, _, _⟩) rfl (fun K9 hK9 => ?_) ?_
        · skip
          go_simp
          refine hK9.out _ _ ?_ (fun hHeld => ?_)
          · assumption
          clear hK9 K9
          try simp only [Act.put, List.setIfInBounds_toArray, List.set_cons_zero, List.set_cons_succ]
          refine wpAnyH_ready (rs := [6]) (by kernel_rfl) (by simp) ?_
          refine AllReadyH.cons (o := ⟨some 30, _, _, _, _, _⟩) rfl (fun K9 hK9 => ?_) AllReadyH.nil
          go_simp; go_at_call 18
          refine (HCB.out _ UB1.out).mono ?_
          rintro e u2 ⟨rfl, ub2⟩
          have UB2 := Lib.hid (bt UB1.out ub2)
          have t2 : u2.cell? ⟨w2.heap.size, 0, none⟩ = some (.slice vA M vC) := cell_later ub2 t1
          refine hK9.out _ _ ?_ (fun hHeld => ?_)
          · exact ⟨cell_later (bt ub1 ub2) f0, cell_later (bt ub1 ub2) p0, cell_later (bt ub1 ub2) p1⟩
          clear hK9 K9
          try simp only [Act.put, List.setIfInBounds_toArray, List.set_cons_zero, List.set_cons_succ]
          refine wpAnyH_ready (rs := [7]) (by kernel_rfl) (by simp) ?_
          refine AllReadyH.cons (o := ⟨some 31, _, _, _, _, _⟩) rfl (fun K9 hK9 => ?_) AllReadyH.nil
          go_simp; go_at_call 47
          refine (HCP.out _ UB2.out).mono ?_
          rintro e u3 ⟨v6, rfl, g1, g2, g3⟩
          obtain ⟨g6, d6, rfl, gf⟩ := own_form g1
          have HE := Lib.hid (HEND.out _ _ _ UB2.out g1 g2 g3)
          have t3 := HE.out.1.1.1
          have z3 := HE.out.1.1.2
          clear g1 g2 g3 gf
          refine hK9.out _ _ ?_ (fun hHeld => ?_)
          · exact ⟨HE.out.2.1.1.cell 0, HE.out.2.1.2.cell 0, HE.out.2.1.2.cell 1⟩
          clear hK9 K9
          try simp only [Act.put, List.setIfInBounds_toArray, List.set_cons_zero, List.set_cons_succ]
          refine wpAnyH_ready (rs := [8]) (by kernel_rfl) (by simp) ?_
          refine AllReadyH.cons (o := ⟨none, _, _, _, _, _⟩) rfl (fun K9 hK9 => ?_) AllReadyH.nil
          go_simp
          refine hK9.out _ _ ?_ (fun hHeld => ?_)
          · exact ⟨HE.out.2.2.1.cell 0, HE.out.2.2.2.cell 0, HE.out.2.2.2.cell 1⟩
          clear hK9 K9
          try simp only [Act.put]
          refine wpAnyH_done (by kernel_rfl) ?_ _
          refine onlyW_normal ?_
          gi_wp2_with fail
          exact HE.out.1.2
        refine AllReadyH.cons (o := ⟨some 30, _, _, _, _, _⟩) rfl (fun K9 hK9 => ?_) AllReadyH.nil
        · skip
          go_simp; go_at_call 18
          refine (HCB.out _ UB1.out).mono ?_
          rintro e u2 ⟨rfl, ub2⟩
          have UB2 := Lib.hid (bt UB1.out ub2)
          have t2 : u2.cell? ⟨w2.heap.size, 0, none⟩ = some (.slice vA M vC) := cell_later ub2 t1
          refine hK9.out _ _ ?_ (fun hHeld => ?_)
          · exact ⟨cell_later (bt ub1 ub2) f0, cell_later (bt ub1 ub2) p0, cell_later (bt ub1 ub2) p1⟩
          clear hK9 K9
          try simp only [Act.put, List.setIfInBounds_toArray, List.set_cons_zero, List.set_cons_succ]
          refine wpAnyH_ready (rs := [0]) (by kernel_rfl) (by simp) ?_
          refine AllReadyH.cons (o := ⟨some 24, _, _, _, _, _⟩) rfl (fun K9 hK9 => ?_) AllReadyH.nil
          go_simp
          refine hK9.out _ _ ?_ (fun hHeld => ?_)
          · assumption
          clear hK9 K9
          try simp only [Act.put, List.setIfInBounds_toArray, List.set_cons_zero, List.set_cons_succ]
          refine wpAnyH_ready (rs := [7]) (by kernel_rfl) (by simp) ?_
          refine AllReadyH.cons (o := ⟨some 31, _, _, _, _, _⟩) rfl (fun K9 hK9 => ?_) AllReadyH.nil
          go_simp; go_at_call 47
          refine (HCP.out _ UB2.out).mono ?_
          rintro e u3 ⟨v6, rfl, g1, g2, g3⟩
          obtain ⟨g6, d6, rfl, gf⟩ := own_form g1
          have HE := Lib.hid (HEND.out _ _ _ UB2.out g1 g2 g3)
          have t3 := HE.out.1.1.1
          have z3 := HE.out.1.1.2
          clear g1 g2 g3 gf
          refine hK9.out _ _ ?_ (fun hHeld => ?_)
          · exact ⟨HE.out.2.1.1.cell 0, HE.out.2.1.2.cell 0, HE.out.2.1.2.cell 1⟩
          clear hK9 K9
          try simp only [Act.put, List.setIfInBounds_toArray, List.set_cons_zero, List.set_cons_succ]
          refine wpAnyH_ready (rs := [8]) (by kernel_rfl) (by simp) ?_
          refine AllReadyH.cons (o := ⟨none, _, _, _, _, _⟩) rfl (fun K9 hK9 => ?_) AllReadyH.nil
          go_simp
          refine hK9.out _ _ ?_ (fun hHeld => ?_)
          · exact ⟨HE.out.2.2.1.cell 0, HE.out.2.2.2.cell 0, HE.out.2.2.2.cell 1⟩
          clear hK9 K9
          try simp only [Act.put]
          refine wpAnyH_done (by kernel_rfl) ?_ _
          refine onlyW_normal ?_
          gi_wp2_with fail
          exact HE.out.1.2
  case done =>
    rintro D Y W hD ⟨v, i1, i2, i3, i4, i5, i6, i7⟩ hbY hYD hKd
    rw [List.length_range] at i2
    obtain ⟨A', c', rfl, hcc⟩ := own_form i2
    have HCC : Hid ((cdo L F (f / 32) (mK f len)).length ≤ c' ∧ (A' = none → c' = 0)) := Lib.hid (by
      rcases no_cur i2 with ⟨h1, h2, h3, _⟩ | ⟨g, R, h1, _, _, h3, _⟩
      · exact ⟨by omega, fun _ => h3⟩
      · exact ⟨h3, fun e => by rw [h1] at e; cases e⟩)
    clear hcc
    have c0 : W.cell? ⟨w2.heap.size, 0, none⟩ = some (.slice A' (cdo L F (f / 32) (mK f len)).length c') := i1.cell 0
    have HFF : Hid (CR (W.putObj D (.deferred none)) A' (cdo L F (f / 32) (mK f len))) := Lib.hid (own_CR (vown_kept i2 (fun k hk => by
        obtain ⟨_, cs, hb⟩ := vown_blk i2 k hk
        exact (vblk_putObj hb hKd rfl).trans hb.symm)) rfl)
    have HBW : Hid (Below w.heap.size w (W.putObj D (.deferred none))) := Lib.hid (i7.grown (grownBy_putObj' W D _) i7.size (fun k e => by cases e; have := HB0.out.size; omega))
    clear i1 i2 i3 i4 i5 i6 i7 HB0 HW0 HFB0 HNO0 HH HI0
    gi_wp2
    refine ⟨by simp, .inl ⟨_, _, rfl, run_takeDeferred hKd, ?_⟩⟩
    exact ⟨.tuple #[.slice A' (cdo L F (f / 32) (mK f len)).length c', .int .i64 0], by kernel_rfl, A', c', rfl, HCC.out, HFF.out, HBW.out⟩
end Go.Proofs.Ytbecambkjmheiaa
