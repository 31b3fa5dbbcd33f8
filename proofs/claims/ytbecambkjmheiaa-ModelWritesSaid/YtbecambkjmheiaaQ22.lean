/- Texts of this seat, one behind the other: NBld, NStr, NRead, NFew. -/
import Derived.Lib.AppendStr
import Derived.Lib.AppendZeros
import Derived.Lib.UnsafeStr
import Derived.Test.YtbecambkjmheiaaQ01
import Derived.Test.YtbecambkjmheiaaQ02
import Derived.Test.YtbecambkjmheiaaQ03
import Derived.Test.YtbecambkjmheiaaQ10
import Derived.Test.YtbecambkjmheiaaQ17
import Derived.Test.YtbecambkjmheiaaQ21
/- (*strings.Builder).WriteString, told block by block: what it turns is the builder's own. -/
namespace Go.Proofs.Ytbecambkjmheiaa
open Go.RowKit Go.Shelf

theorem nappend_str (w : World) (base n : Nat) (v : Value) (xs : List Value) (s : List UInt8) (ty : TypeId) (ho : w.ownsRow base 5 1 v n xs) (hs : n + s.length ≤ 65536) (hb : base ≤ w.heap.size) :
    ∃ v' w', (Builtin.append_ #[56, 9] ty #[v, .string ⟨s.toArray⟩]).run Try.prog w = .ok v' w' ∧ w'.ownsRow base 5 1 v' (n + s.length) (xs ++ Lib.strCells ⟨s.toArray⟩) ∧ w.grownBy w' v.ownBlock ∧ (v'.ownBlock = v.ownBlock ∨ v'.ownBlock = some w.heap.size) := by
  obtain ⟨ti, hi, hz0, hz1, hz2⟩ := info_parts info5
  have hsz := size_of s
  obtain ⟨v', w', hr, h2, h3, h4⟩ := Lib.run_append_own_string (P := Try.prog) w base 56 9 ty 5 ti Try.underlying56 Try.underlying9 hi hz0 hz1 hz2 v n xs ho ⟨s.toArray⟩ (by unfold maxLen; omega) (by omega) hb
  rw [hsz] at h2
  refine ⟨v', w', hr, h2, h3, ?_⟩
  rcases ho.2 with ⟨e1, e2⟩ | ⟨g, cap, cur, e1, e2, e3, e4, e5, e6, e7⟩
  · subst e1
    subst e2
    by_cases h0 : s.length = 0
    · left
      have := h4.2 ⟨rfl, by rw [hsz]; exact h0⟩
      rw [this]
    · right
      have h9 := run_append_nil_string (P := Try.prog) w 56 9 ty 5 ti _ Try.underlying56 Try.underlying9 hi hz0 ⟨s.toArray⟩ (by rw [hsz]; omega) (by rw [hsz]; omega) (by rw [hsz, hz2]; omega)
      have e9 := (Result.ok.inj (hr.symm.trans h9)).1
      subst e9
      simp [Value.ownBlock]
  · subst e1
    by_cases hroom : n + s.length ≤ cap
    · left
      have h9 := Lib.run_append_room_string (P := Try.prog) w 56 9 ty 5 ti Try.underlying56 Try.underlying9 hi hz1 g n cap cur e3 ⟨s.toArray⟩ (by rw [hsz]; omega) (by rw [hsz]; omega)
      have e9 := (Result.ok.inj (hr.symm.trans h9)).1
      subst e9
      simp [Value.ownBlock]
    · right
      have h9 := Lib.run_append_grow_string (P := Try.prog) w 56 9 ty 5 ti _ Try.underlying56 Try.underlying9 hi hz0 ⟨g, 0, none⟩ n cap xs (by rw [hz1]; exact ho.1) (ho.cells (g := g) rfl) ⟨s.toArray⟩ (by rw [hsz]; omega) (by rw [hsz]; omega) (growslice_fits (by rw [hsz]; omega) (by rw [hsz, hz2]; omega))
      have e9 := (Result.ok.inj (hr.symm.trans h9)).1
      subst e9
      simp [Value.ownBlock]
/-- A builder in its block: its bytes lie from a line on. -/
def NBd (w : World) (base b : Nat) (v : Value) (l : List UInt8) : Prop :=
  ∃ p, (p = .pointer none ∨ p = .pointer (some ⟨b, 0, none⟩)) ∧ Blk w b 58 #[p, v] ∧ w.ownsRow base 5 1 v l.length (Lib.byteCells l) ∧ v.ownBlock ≠ some b
theorem NBd.later {w w' : World} {base b : Nat} {v : Value} {l : List UInt8} (h : NBd w base b v l) (hb : Below w.heap.size w w') : NBd w' base b v l := by
  obtain ⟨p, h1, h2, h3, h4⟩ := h
  exact ⟨p, h1, h2.below hb, vown_kept h3 (fun k hk => by obtain ⟨_, cs, hc⟩ := vown_blk h3 k hk; exact hb.block k hc.lt), h4⟩
theorem NBd.bld {w : World} {base b : Nat} {v : Value} {l : List UInt8} (h : NBd w base b v l) (hb : base ≤ b) : Bld w base b (Lib.byteCells l) := by
  obtain ⟨p, h1, h2, h3, h4⟩ := h
  have h5 : w.ownsRow base 5 1 v (Lib.byteCells l).length (Lib.byteCells l) := by
    have : (Lib.byteCells l).length = l.length := by simp [Lib.byteCells]
    rw [this]; exact h3
  rcases h1 with rfl | rfl
  · exact .inl ⟨hb, v, h2, h5, h4⟩
  · exact .inr ⟨hb, v, h2, h5, h4⟩
theorem nccheck_any (b : Nat) (p v : Value) (w : World) (hp : p = .pointer none ∨ p = .pointer (some ⟨b, 0, none⟩)) (hb : Blk w b 58 #[p, v]) :
    Calls Try.prog 53 #[.pointer (some ⟨b, 0, none⟩)] w fun e w' => e = .returned (.tuple #[]) ∧ Blk w' b 58 #[.pointer (some ⟨b, 0, none⟩), v] ∧ Grow (fun k => k = b) w w' ∧ w'.heap.size = w.heap.size := by
  rcases hp with rfl | rfl
  · refine (Any.Builder_copyCheck_fresh (ρ := bldRen) { bldLays166 with } bldExtra.toX72 b w (hb.cell 0) (by simp [World.shape?, show w.heap[b]? = _ from hb]; rfl) (hb.frozen 0)).mono ?_
    rintro e w' ⟨rfl, rfl⟩
    exact ⟨rfl, hb.set_ 0 _, Grow.setCell (X := fun k => k = b) (g := b) (o := 0) rfl w _, by simp [World.setCell]⟩
  · refine (Any.Builder_copyCheck_used (ρ := bldRen) { bldLays166 with } bldExtra.toX72 b w (hb.cell 0)).mono ?_
    rintro e w' ⟨rfl, rfl⟩
    exact ⟨rfl, hb, Grow.refl _ _, rfl⟩

set_option maxRecDepth 100000 in
set_option maxHeartbeats 2000000 in
theorem nwstr_any (base b : Nat) (v : Value) (l s : List UInt8) (w : World) (h : NBd w base b v l) (hs : l.length + s.length ≤ 65536) (hb : base ≤ w.heap.size) :
    Calls Try.prog 32 #[.pointer (some ⟨b, 0, none⟩), sv s] w fun e w' => e = .returned (.tuple #[.int .i64 (s.length : Int), .nilIface]) ∧ ∃ v', NBd w' base b v' (l ++ s) ∧ Grow (fun k => k = b ∨ v.ownBlock = some k) w w' ∧ (v'.ownBlock = v.ownBlock ∨ ∃ k, v'.ownBlock = some k ∧ w.heap.size ≤ k) := by
  obtain ⟨p, hp, hB, ho, hne⟩ := h
  have HC := Lib.hid (nccheck_any b p v w hp hB)
  have HE : Hid (∀ w1, Grow (fun k => k = b) w w1 → w1.heap.size = w.heap.size → Blk w1 b 58 #[.pointer (some ⟨b, 0, none⟩), v] → ∃ v' w', (∀ ty, (Builtin.append_ #[56, 9] ty #[v, .string ⟨s.toArray⟩]).run Try.prog w1 = .ok v' w') ∧ (∃ A n c, v' = .slice A n c) ∧ w'.cell? ⟨b, 1, none⟩ = some v ∧ w'.frozen? ⟨b, 1, none⟩ = false ∧
      NBd (w'.setCell ⟨b, 1, none⟩ v') base b v' (l ++ s) ∧ Grow (fun k => k = b ∨ v.ownBlock = some k) w (w'.setCell ⟨b, 1, none⟩ v') ∧ (v'.ownBlock = v.ownBlock ∨ ∃ k, v'.ownBlock = some k ∧ w.heap.size ≤ k)) := Lib.hid fun w1 hg hsz hB1 => by
    have ho1 : w1.ownsRow base 5 1 v l.length (Lib.byteCells l) := vown_kept ho (fun k hk => hg.block k (by obtain ⟨_, cs, hc⟩ := vown_blk ho k hk; exact hc.lt) (fun e => hne (by rw [hk, e])))
    obtain ⟨v', w', hr, k1, k2, k3⟩ := nappend_str w1 base l.length v (Lib.byteCells l) s 56 ho1 hs (by omega)
    have hr2 : ∀ ty, (Builtin.append_ #[56, 9] ty #[v, .string ⟨s.toArray⟩]).run Try.prog w1 = .ok v' w' := fun ty => hr
    have hB2 : Blk w' b 58 #[.pointer (some ⟨b, 0, none⟩), v] := hB1.grown k2 (fun e => hne e.symm)
    have hne2 : v'.ownBlock ≠ some b := by
      rcases k3 with k3 | k3
      · rw [k3]; exact hne
      · rw [k3]; intro e; injection e with e; have := hB.lt; omega
    have hl2 : (l ++ s).length = l.length + s.length := List.length_append
    have hc2 : Lib.byteCells (l ++ s) = Lib.byteCells l ++ Lib.strCells ⟨s.toArray⟩ := by simp [Lib.byteCells, Lib.strCells]
    refine ⟨v', w', hr2, ?_, hB2.cell 1, hB2.frozen 1, ⟨_, .inr rfl, hB2.set_ 1 v', ?_, hne2⟩, ?_, ?_⟩
    · obtain ⟨A', c', e, _⟩ := own_form k1
      exact ⟨A', _, c', e⟩
    · rw [hl2, hc2]
      exact vown_kept k1 (fun k hk => Below.heap_setCell w' ⟨b, 1, none⟩ v' k (fun e => hne2 (by rw [hk]; exact congrArg some e)))
    · refine ⟨by simp [World.setCell, k2.os, hg.os], by simp [World.setCell, k2.tape, hg.tape], by simp [World.setCell, k2.output, hg.output], by have := k2.size; simp [World.setCell]; omega, fun k hk hn => ?_⟩
      rw [Below.heap_setCell w' ⟨b, 1, none⟩ v' k (fun e => hn (.inl e)), k2.block k (by omega) (fun e => hn (.inr e.symm)), hg.block k hk (fun e => hn (.inl e))]
    · rcases k3 with k3 | k3
      · exact .inl k3
      · exact .inr ⟨_, k3, by omega⟩
  clear hp hB ho hne
  go_enter Try.func32, Try.ntmps32
  go_wp2_with fail
  refine HC.out.mono ?_
  rintro e w1 ⟨rfl, hB1, hg1, hz1⟩
  have c0 : w1.cell? ⟨b, 0, none⟩ = some (.pointer (some ⟨b, 0, none⟩)) := hB1.cell 0
  have c1 : w1.cell? ⟨b, 1, none⟩ = some v := hB1.cell 1
  obtain ⟨v', w', hr, ⟨A', n', c', rfl⟩, d1, f1, k1, k2, k3⟩ := HE.out w1 hg1 hz1 hB1
  have HK := Lib.hid (And.intro k1 (And.intro k2 k3))
  have hsz := size_of s
  clear hB1 hg1 hz1 k1 k2 k3
  go_wp2_with (at_builtin; refine Lib.wpList_append_run _ rfl _ _ 56 9 rfl _ _ rfl rfl _ _ (hr _) ?_)
  go_ret2
  exact ⟨rfl, _, HK.out⟩
end Go.Proofs.Ytbecambkjmheiaa
/- (*strings.Builder).String, told block by block. -/
namespace Go.Proofs.Ytbecambkjmheiaa
open Go.RowKit Go.Shelf

theorem freeze_other (w : World) (g n k : Nat) (h : k ≠ g) : (w.freeze ⟨g, 0, none⟩ n).heap[k]? = w.heap[k]? := by
  unfold World.freeze
  split
  · rfl
  · show (w.heap.modify g _)[k]? = w.heap[k]?
    rw [Array.getElem?_modify, if_neg (fun e => h e.symm)]
set_option maxRecDepth 100000 in
set_option maxHeartbeats 2000000 in
theorem nbtext_any (base b : Nat) (v : Value) (l : List UInt8) (w : World) (h : NBd w base b v l) (hl : l ≠ []) :
    Calls Try.prog 36 #[.pointer (some ⟨b, 0, none⟩)] w fun e w' => e = .returned (sv l) ∧ Below base w w' ∧ ∀ (k : Nat) (o : Obj), w.heap[k]? = some o → o.isCells = false → w'.heap[k]? = some o := by
  obtain ⟨p, hp, hB, hown, hne⟩ := h
  have hl0 : l.length ≠ 0 := by simpa using hl
  obtain ⟨g, cap, cur, rfl, hbg, hg, hnc, hcm, hcs, htake⟩ : ∃ g cap cur, v = .slice (some ⟨g, 0, none⟩) l.length cap ∧ base ≤ g ∧ w.heap[g]? = some (.cells cur 5 (0, 0)) ∧ l.length ≤ cap ∧ cap ≤ maxLen ∧ cur.size = cap * 1 ∧ cur.toList.take (l.length * 1) = Lib.byteCells l := by
    rcases hown.2 with ⟨_, hz⟩ | ⟨g, cap, cur, hv, r⟩
    · exact absurd hz hl0
    · exact ⟨g, cap, cur, hv, r⟩
  have c1 : w.drew.cell? ⟨b, 1, none⟩ = some (.slice (some ⟨g, 0, none⟩) l.length cap) := (Blk.drew hB).cell 1
  have hSD : (Builtin.unsafeSliceData_ #[56] 88 #[.slice (some ⟨g, 0, none⟩) l.length cap]).run Try.prog w.drew = .ok (.pointer (some ⟨g, 0, none⟩)) w.drew :=
    Lib.run_unsafeSliceData_row _ _ _ _ _ _ (by omega)
  have hUS : (Builtin.unsafeString_ #[88, 3] 9 #[.pointer (some ⟨g, 0, none⟩), .int .i64 l.length]).run Try.prog w.drew = .ok (.string ⟨l.toArray⟩) (w.drew.freeze ⟨g, 0, none⟩ l.length) := by
    refine Lib.run_unsafeString_row w.drew 88 3 9 5 Try.underlying88 (by kernel_rfl) g cur.size (by have hg' : w.drew.heap[g]? = some (.cells cur 5 (0, 0)) := hg; simp [World.shape?, hg']) l hl (by omega) (by unfold maxLen at hcm; omega) ?_
    intro j x hx
    exact hown.cells (g := g) rfl j (.int .u8 x.toNat) (by simp [Lib.byteCells, hx])
  have HF : Hid (Below base w (w.drew.freeze ⟨g, 0, none⟩ l.length) ∧ ∀ (k : Nat) (o : Obj), w.heap[k]? = some o → o.isCells = false → (w.drew.freeze ⟨g, 0, none⟩ l.length).heap[k]? = some o) := Lib.hid ⟨Lib.below_freeze (Below.drew (Below.refl base w)) (p := ⟨g, 0, none⟩) hbg _, fun k o hk ho => by
    have hkg : k ≠ g := fun e => by
      subst e
      rw [hg] at hk
      cases hk
      cases ho
    exact (freeze_other w.drew g l.length k hkg).trans hk⟩
  have mixed : Try.prog.follows Departure.mixedOrders = true := by kernel_rfl
  clear hB hown hne hg hnc hcm hcs htake hp hl hl0
  go_enter Try.func36, Try.ntmps36
  go_wp2
  go_region_o
  all_goals (go_wp2; go_ret; exact ⟨rfl, HF.out⟩)
end Go.Proofs.Ytbecambkjmheiaa
/- The contract of Read. -/
namespace Go.Proofs.Ytbecambkjmheiaa
open Go.RowKit Go.Shelf
attribute [local go_sem] Oper.semAt_some

/-- How many bytes the first blocks of a span have. -/
def mT (f len k : Nat) : Nat := min (f + len) (32 * (f / 32 + k)) - f
theorem mT_zero (f len : Nat) : mT f len 0 = 0 := by unfold mT; omega
theorem mT_all {f len : Nat} (h : 1 ≤ len) : mT f len (mK f len) = len := by unfold mT mK; omega
theorem mT_step {f len k : Nat} (hk : k < mK f len) (h : 1 ≤ len) : mT f len (k + 1) = mT f len k + mL f len k ∧ f + mT f len k = m0 f k := by
  have h1 := m_last hk h
  have h2 : m0 f k = max f (32 * (f / 32 + k)) := rfl
  have h3 : mL f len k = min (f + len) (32 * (f / 32 + k) + 32) - m0 f k := rfl
  unfold mT
  omega
/-- Between two rounds. -/
def NRI (b0 : Nat) (w : World) (BB LB : Nat) (lv : Value) (L : List CL) (f len : Nat) (pre : List Nat) (Y : Nat → Prop) (V : World) : Prop :=
  ∃ v, NBd V b0 BB v (cread L f (mT f len pre.length)) ∧ ¬ Y BB ∧ (∀ k, v.ownBlock = some k → ¬ Y k) ∧ Blk V LB 22 #[lv] ∧ ¬ Y LB ∧ Below b0 w V
section
variable {b0 : Nat} {w : World} {BB LB : Nat} {lv : Value} {L : List CL} {f len : Nat} {pre : List Nat} {Y : Nat → Prop} {V V' : World}
theorem NRI.ab (b0 : Nat) (w : World) (BB LB : Nat) (lv : Value) (L : List CL) (f len : Nat) : AbN2 b0 (NRI b0 w BB LB lv L f len) := by
  rintro s X V V' ⟨v, ⟨p, a1, a2, a3, a4⟩, h3, h4, h5, h6, h7⟩ hg hb
  have hl := a2.lt
  have hl5 := h5.lt
  refine ⟨v, ⟨p, a1, (hg.block _ hl h3).trans a2, vown_kept a3 (fun k hk => hg.block k (by obtain ⟨_, cs, hc⟩ := vown_blk a3 k hk; exact hc.lt) (h4 k hk)), a4⟩, ?_, ?_, (hg.block _ hl5 h6).trans h5, ?_, h7.trans hb⟩
  · rintro (h | ⟨h, _⟩)
    · exact h3 h
    · omega
  · intro k hk
    obtain ⟨_, cs, hc⟩ := vown_blk a3 k hk
    have := hc.lt
    rintro (h | ⟨h, _⟩)
    · exact h4 k hk h
    · omega
  · rintro (h | ⟨h, _⟩)
    · exact h6 h
    · omega
theorem NRI.below (h : NRI b0 w BB LB lv L f len pre Y V) (hb0 : b0 ≤ V.heap.size) (hb : Below V.heap.size V V') : NRI b0 w BB LB lv L f len pre Y V' := by
  obtain ⟨v, h1, h3, h4, h5, h6, h7⟩ := h
  exact ⟨v, h1.later hb, h3, h4, h5.below hb, h6, h7.trans (hb.mono hb0)⟩
/-- A round's end: a text written. -/
theorem NRI.more {x : Nat} {U W : World} {v v6 : Value} (hY : Bd Y V) (hb0 : b0 ≤ w.heap.size) (hB0 : b0 ≤ BB) (h1 : NBd V b0 BB v (cread L f (mT f len pre.length))) (h3 : ¬ Y BB) (h4 : ∀ k, v.ownBlock = some k → ¬ Y k) (h5 : Blk V LB 22 #[lv]) (h6 : ¬ Y LB) (h7 : Below b0 w V)
    (hU : Below V.heap.size V U) (g1 : NBd W b0 BB v6 (cread L f (mT f len (pre.length + 1)))) (g2 : Grow (fun k => k = BB ∨ v.ownBlock = some k) U W) (g3 : v6.ownBlock = v.ownBlock ∨ ∃ k, v6.ownBlock = some k ∧ U.heap.size ≤ k) :
    NRI b0 w BB LB lv L f len (pre ++ [x]) Y W ∧ Keep Y V W := by
  obtain ⟨p, a1, a2, a3, a4⟩ := h1
  have hTF : LB ≠ BB := fun e => by
    subst e
    have e : some (Obj.cells #[p, v] 58 (0, 0)) = some (Obj.cells #[lv] 22 (0, 0)) := (show V.heap[LB]? = _ from a2).symm.trans h5
    injection e with e
    injection e with e1 e2
    exact absurd e2 (by decide)
  have hown := vown_kept a3 (fun k hk => by obtain ⟨_, cs, hc⟩ := vown_blk a3 k hk; exact hU.block k hc.lt)
  have j5 : Blk W LB 22 #[lv] := (g2.block _ (Nat.lt_of_lt_of_le h5.lt hU.size) (fun e => by
    rcases e with e | e
    · exact hTF e
    · exact vown_ne hown (h5.below hU) (by decide) e)).trans (h5.below hU)
  have hkp : Keep Y V W := ⟨Nat.le_trans hU.size g2.size, fun k hk => (g2.block k (Nat.lt_of_lt_of_le (hY k hk) hU.size) (fun e => by
    rcases e with e | e
    · subst e; exact h3 hk
    · exact h4 k e hk)).trans (hU.block k (hY k hk))⟩
  have hb6 : Below b0 V W := ⟨g2.os.trans hU.os, g2.tape.trans hU.tape, g2.output.trans hU.output, Nat.le_trans hU.size g2.size, fun k hk => by
    have := h7.size
    rw [g2.block k (by have := hU.size; omega) (fun e => by
      rcases e with e | e
      · omega
      · have := (vown_blk hown k e).1; omega), hU.block k (by omega)]⟩
  refine ⟨⟨v6, by rw [List.length_append, List.length_singleton]; exact g1, h3, ?_, j5, h6, h7.trans hb6⟩, hkp⟩
  intro k hk hy
  rcases g3 with e | ⟨m, e, hm⟩
  · exact h4 k (by rw [← e]; exact hk) hy
  · rw [e] at hk
    injection hk with hk
    have := hY k hy
    have := hU.size
    omega
end

set_option maxRecDepth 100000 in
set_option maxHeartbeats 2000000 in
theorem nread_no (A : Option Addr) (n c f len : Nat) (L : List CL) (w : World) (hA : CR w A L) (hl : L.length = n) (hn : n ≤ 65536) (hf : f < 18446744073709551616) (hm : len < 18446744073709551616) (h : cWhy L f len ≠ 0) :
    Calls Try.prog 13 #[.slice A n c, .agg #[vu f, vu len]] w fun e w' => e = .returned (.tuple #[sv [], .int .i64 (cWhy L f len)]) ∧ Below w.heap.size w w' := by
  have HC := Lib.hid (fun W (hb : Below w.heap.size w W) => ncheck_any A n c f len L W (hA.later hb) hl hn hf hm)
  generalize cWhy L f len = E at *
  have hE : decide (E = 0) = false := by simpa using h
  clear hA hl
  go_enter Try.func13, Try.ntmps13
  go_wp2_with fail
  refine (HC.out _ (ba (ba (Below.refl _ _) _) _)).mono ?_
  rintro e w1 ⟨rfl, hb1⟩
  have HB := Lib.hid (bt (ba (ba (Below.refl w.heap.size w) _) _) hb1)
  clear hb1
  go_wp2
  go_ret2
  exact ⟨rfl, HB.out⟩

set_option maxRecDepth 100000 in
set_option maxHeartbeats 8000000 in
theorem nread_yes (A : Option Addr) (n c f len : Nat) (L : List CL) (w : World) (hA : CR w A L) (hl : L.length = n) (hR : CRt L) (h1 : 1 ≤ len) (h2 : len ≤ 224) (h3 : f + len ≤ 18446744073709551616) :
    Calls Try.prog 13 #[.slice A n c, .agg #[vu f, vu len]] w fun e w' => e = .returned (.tuple #[sv (cread L f len), .int .i64 0]) ∧ Below w.heap.size w w' := by
  have hE : cWhy L f len = 0 := cWhy_ok.2 ⟨hR, h1, h2, h3⟩
  have hn : n ≤ 64 := by rw [← hl]; exact hR.1
  have HC : Hid (∀ W, Below w.heap.size w W → Calls Try.prog 30 #[.slice A n c, .agg #[vu f, vu len]] W fun e w' => e = .returned (.int .i64 0) ∧ Below W.heap.size W w') := Lib.hid (fun W hb => by
    have := ncheck_any A n c f len L W (hA.later hb) hl (by omega) (by omega) (by omega)
    rw [hE] at this
    exact this)
  have HCA := Lib.hid (fun W (hb : Below w.heap.size w W) m => ncellAt_any A n c m L W (hA.later hb) hl hR.2.2 (by omega))
  have HS : Hid (CRt L) := Lib.hid hR
  have HN : Hid (1 ≤ len ∧ len ≤ 224 ∧ f + len ≤ 18446744073709551616) := Lib.hid ⟨h1, h2, h3⟩
  clear hA hl hE hR h1 h2 h3 hn
  refine (callsIn_wide (n := 6)).1 ?_
  refine callsIn_of_wp_marks Try.func13 rfl trivial ?_ rfl
  simp only [Try.ntmps13, List.size_toArray, List.length_cons, List.length_nil, Nat.reduceAdd, Nat.reduceSub, Array.replicate_succ, Array.replicate_zero, List.push_toArray, List.append_toArray, List.nil_append, List.cons_append]
  gi_wp2_with fail
  refine ⟨trivial, ?_⟩
  refine (callsIn_wide.2 (HC.out _ (ba (ba (Below.refl _ _) _) _))).mono ?_
  rintro e w1 ⟨rfl, hb1⟩
  have HLB1 := Lib.hid (((Blk.new w 22 #[.slice A n c]).alloc (.cells #[vu f, vu len] 25)).below hb1)
  have HSB1 := Lib.hid ((Blk.newAt (w := w.alloc (.cells #[.slice A n c] 22)) (g := w.heap.size + 1) (by simp) 25 #[vu f, vu len]).below hb1)
  have HB1 := Lib.hid (bt (ba (ba (Below.refl w.heap.size w) _) _) hb1)
  clear hb1
  have q0 : (w1.alloc (.cells #[.pointer none, .slice none 0 0] 58)).cell? ⟨w.heap.size + 1, 0, none⟩ = some (vu f) := (HSB1.out.alloc _).cell 0
  have q1 : (w1.alloc (.cells #[.pointer none, .slice none 0 0] 58)).cell? ⟨w.heap.size + 1, 1, none⟩ = some (vu len) := (HSB1.out.alloc _).cell 1
  gi_wp2_with fail
  refine ⟨trivial, ?_⟩
  refine (callsIn_wide.2 (nmet_any f len _)).mono ?_
  rintro e w3 ⟨rfl, rfl⟩
  clear q0 q1
  gi_wp2_with fail
  -- LOOP
  have HW0 : Hid (Below w1.heap.size w1 ((w1.alloc (.cells #[.pointer none, .slice none 0 0] 58)).alloc (.cells #[vu f, vu len] 25)) ∧ Blk ((w1.alloc (.cells #[.pointer none, .slice none 0 0] 58)).alloc (.cells #[vu f, vu len] 25)) w1.heap.size 58 #[.pointer none, .slice none 0 0] ∧ Blk ((w1.alloc (.cells #[.pointer none, .slice none 0 0] 58)).alloc (.cells #[vu f, vu len] 25)) (w1.heap.size + 1) 25 #[vu f, vu len] ∧ ((w1.alloc (.cells #[.pointer none, .slice none 0 0] 58)).alloc (.cells #[vu f, vu len] 25)).heap.size = w1.heap.size + 2) := Lib.hid ⟨ba (ba (Below.refl _ _) _) _, (Blk.new _ _ _).alloc _, Blk.newAt (by simp) _ _, by simp⟩
  have hz2 : (w1.alloc (.cells #[.pointer none, .slice none 0 0] 58)).heap.size = w1.heap.size + 1 := by simp
  try rw [hz2]
  generalize ((w1.alloc (.cells #[.pointer none, .slice none 0 0] 58)).alloc (.cells #[vu f, vu len] 25)) = W0 at HW0 ⊢
  clear hz2
  have HB0 := Lib.hid (bt HB1.out HW0.out.1)
  have HLB0 := Lib.hid (HLB1.out.below HW0.out.1)
  have hz9 := HW0.out.2.2.2
  have hzz := HLB1.out.lt
  have hzs := HSB1.out.lt
  have hz0 := mT_zero f len
  have HI0 : Hid (NRI w.heap.size w w1.heap.size w.heap.size (.slice A n c) L f len [] (fun k => k = w1.heap.size + 1) W0) := Lib.hid (by
    refine ⟨_, ⟨_, .inl rfl, HW0.out.2.1, ?_, by simp [Value.ownBlock]⟩, fun h => by omega, fun k hk => (by cases hk), HLB0.out, fun h => by omega, HB0.out⟩
    rw [List.length_nil, hz0]
    exact World.ownsRow_nil _ _ _ _)
  have HH : Hid (HandsN2 w.heap.size 5 50 #[.pointer (some ⟨w1.heap.size + 1, 0, none⟩)] (me1 f) (me2 f len) (List.range (mK f len)) (fun k => k = w1.heap.size + 1) W0) := Lib.hid (nmet_hands w.heap.size 5 (by omega) (w1.heap.size + 1) f len W0 HW0.out.2.2.1 HN.out.1 HN.out.2.1 HN.out.2.2)
  clear hz0
  refine range_n2 (n := 6) (b0 := w.heap.size) (w0 := W0) (by omega) (gf := 50) (lb := #[.pointer (some ⟨w1.heap.size + 1, 0, none⟩)]) rfl nmet_enters (enc := me1 f) (enc2 := me2 f len) (zs := List.range (mK f len)) (X0 := (fun k => k = w1.heap.size + 1)) (by omega) HH.out (fun k hk => ⟨by omega, rfl⟩) (NRI w.heap.size w w1.heap.size w.heap.size (.slice A n c) L f len) (NRI.ab _ _ _ _ _ _ _ _) HI0.out
    (fun x a' V => ∃ Bp, Blk V Bp 25 #[vu (m0 f x), vu (mL f len x)] ∧ a' = { tmps := #[.slice A n c, .agg #[vu f, vu len], .pointer (some ⟨w.heap.size, 0, none⟩), .pointer (some ⟨w.heap.size + 1, 0, none⟩), sv [], .int .i64 0, .int .i64 0, .pointer (some ⟨w1.heap.size, 0, none⟩), me1 f x, .pointer (some ⟨Bp, 0, none⟩), .slice A n c, .agg #[vu f, vu len], .int .i64 0, .int .i64 0, .bool false, undef, .agg #[vu f, vu len], .func (.func 50) #[] #[.pointer (some ⟨w1.heap.size + 1, 0, none⟩)], me1 f x, me2 f len x, undef, undef, undef, undef, undef, undef, undef, undef, undef, undef, undef, undef], defers := [] })
    (fun x a' V' k o o' hs hl ho hc => by
      obtain ⟨Bp, h1, h2⟩ := hs
      exact ⟨Bp, vblk_putObj h1 ho hc, h2⟩)
    ?assign ?body ?done
  case assign =>
    rintro l9 pre x Y V' K hI hbY _ _ hK
    have HI2 : Hid (NRI w.heap.size w w1.heap.size w.heap.size (.slice A n c) L f len pre Y (V'.alloc (.cells #[vu (m0 f x), vu (mL f len x)] 25))) := Lib.hid (hI.below (by obtain ⟨_, _, _, _, _, _, h5⟩ := hI; exact h5.size) (ba (Below.refl _ _) _))
    have HKP : Hid (Keep Y V' (V'.alloc (.cells #[vu (m0 f x), vu (mL f len x)] 25))) := Lib.hid (Keep.of_below (ba (Below.refl _ _) _) hbY)
    have HBP := Lib.hid (Blk.new V' 25 #[vu (m0 f x), vu (mL f len x)])
    clear hI hbY
    gi_wp2
    exact hK _ _ HI2.out HKP.out ⟨V'.heap.size, HBP.out, rfl⟩
  case body =>
    rintro l9 pre x a' Y V' hl9 ⟨v, i1, i3, i4, i5, i6, i7⟩ hbY ⟨Bp, hbp, rfl⟩ hpre
    have HPX : Hid (x = pre.length ∧ x < mK f len) := Lib.hid (prefix_range hpre)
    have hxk := HPX.out
    obtain ⟨pf1, pf2, pf3, _, _⟩ := mp_facts hxk.2 HN.out.1 HN.out.2.2
    obtain ⟨ts1, ts2⟩ := mT_step hxk.2 HN.out.1
    have hcl : (cbytes (cAt L (f / 32 + x))).length = 32 := cis_len (by
      rcases cat_ok HS.out (f / 32 + x) with h | h
      · exact .inl h
      · exact .inr (by rw [cat_n]; exact h))
    have HT : Hid (((cbytes (cAt L (f / 32 + x))).drop (m0 f x % 32)).take (mL f len x) = cread L (m0 f x) (mL f len x)) := Lib.hid (by
      have h9 := cread_part (L := L) (n := f / 32 + x) (o := m0 f x % 32) (m := mL f len x) hcl pf2
      have h8 : 32 * (f / 32 + x) + m0 f x % 32 = m0 f x := by
        have hp := m_part hxk.2 HN.out.1
        have e : m0 f x = max f (32 * (f / 32 + x)) := rfl
        omega
      rw [h8] at h9
      exact h9)
    have HCB : Hid (∀ W, Below V'.heap.size V' W → Calls Try.prog 34 #[.slice A n c, vu (f / 32 + x)] W fun e w' => e = .returned (cv (cAt L (f / 32 + x))) ∧ Below W.heap.size W w') := Lib.hid fun W hb => HCA.out W (i7.trans (hb.mono i7.size)) _
    have HBO : Hid (∀ W, Below V'.heap.size V' W → Calls Try.prog 33 #[cv (cAt L (f / 32 + x))] W fun e w' => e = .returned (sv (cbytes (cAt L (f / 32 + x)))) ∧ Below W.heap.size W w') := Lib.hid fun W _ => nbytes_any _ W
    have HPO : Hid (∀ W, Below V'.heap.size V' W → Calls Try.prog 35 #[me2 f len x] W fun e w' => e = .returned (vu (m0 f x % 32)) ∧ Below W.heap.size W w') := Lib.hid fun W _ => nplace_any _ _ W pf1
    have HWS : Hid (∀ W, Below V'.heap.size V' W → Calls Try.prog 32 #[.pointer (some ⟨w1.heap.size, 0, none⟩), sv (((cbytes (cAt L (f / 32 + x))).drop (m0 f x % 32)).take (mL f len x))] W fun e w' => e = .returned (.tuple #[.int .i64 ((((cbytes (cAt L (f / 32 + x))).drop (m0 f x % 32)).take (mL f len x)).length : Int), .nilIface]) ∧ (NRI w.heap.size w w1.heap.size w.heap.size (.slice A n c) L f len (pre ++ [x]) Y w' ∧ Keep Y V' w') ∧ Blk w' w.heap.size 22 #[.slice A n c] ∧ Blk w' Bp 25 #[vu (m0 f x), vu (mL f len x)]) := Lib.hid fun W hb => by
      have hmm : mT f len pre.length ≤ 224 := by
        have := HN.out.2.1
        have e : mT f len pre.length = min (f + len) (32 * (f / 32 + pre.length)) - f := rfl
        omega
      refine (nwstr_any w.heap.size w1.heap.size v _ (((cbytes (cAt L (f / 32 + x))).drop (m0 f x % 32)).take (mL f len x)) W (i1.later hb) (by rw [cread_len, List.length_take, List.length_drop, hcl]; omega) (Nat.le_trans i7.size hb.size)).mono ?_
      rintro e w' ⟨rfl, v6, g1, g2, g3⟩
      rw [HT.out, show m0 f x = f + mT f len pre.length by rw [← hxk.1]; exact ts2.symm, cread_more] at g1
      rw [show mT f len pre.length + mL f len x = mT f len (pre.length + 1) by rw [← hxk.1]; exact ts1.symm] at g1
      obtain ⟨p9, a1, a2, a3, a4⟩ := id i1
      have hown := vown_kept (W' := W) a3 (fun k hk => by obtain ⟨_, cs, hc⟩ := vown_blk a3 k hk; exact hb.block k hc.lt)
      refine ⟨rfl, NRI.more hbY (Nat.le_refl _) (by omega) i1 i3 i4 i5 i6 i7 hb g1 g2 g3, (g2.block _ (Nat.lt_of_lt_of_le i5.lt hb.size) (fun e => ?_)).trans (i5.below hb), (g2.block _ (Nat.lt_of_lt_of_le hbp.lt hb.size) (fun e => ?_)).trans (hbp.below hb)⟩
      · rcases e with e | e
        · omega
        · exact vown_ne hown (i5.below hb) (by decide) e
      · rcases e with e | e
        · subst e
          have e : some (Obj.cells #[p9, v] 58 (0, 0)) = some (Obj.cells #[vu (m0 f x), vu (mL f len x)] 25 (0, 0)) := (show V'.heap[w1.heap.size]? = _ from a2).symm.trans hbp
          injection e with e
          injection e with e1 e2
          exact absurd e2 (by decide)
        · exact vown_ne hown (hbp.below hb) (by decide) e
    have f0 : V'.cell? ⟨w.heap.size, 0, none⟩ = some (.slice A n c) := i5.cell 0
    have p0 : V'.cell? ⟨Bp, 0, none⟩ = some (vu (m0 f x)) := hbp.cell 0
    have p1 : V'.cell? ⟨Bp, 1, none⟩ = some (vu (mL f len x)) := hbp.cell 1
    have HBV := Lib.hid ((Below.refl V'.heap.size V').drew)
    have hsz := size_of (cbytes (cAt L (f / 32 + x)))
    have hx1 : (⟨(cbytes (cAt L (f / 32 + x))).toArray⟩ : ByteArray).extract (m0 f x % 32) 32 = ⟨((cbytes (cAt L (f / 32 + x))).drop (m0 f x % 32)).toArray⟩ := by rw [nextract, List.take_of_length_le (by rw [hcl]; exact Nat.le_refl _)]
    have hx2 : (⟨((cbytes (cAt L (f / 32 + x))).drop (m0 f x % 32)).toArray⟩ : ByteArray).extract 0 (mL f len x) = ⟨(((cbytes (cAt L (f / 32 + x))).drop (m0 f x % 32)).take (mL f len x)).toArray⟩ := by rw [nextract, List.drop_zero]
    have hs2 := size_of ((cbytes (cAt L (f / 32 + x))).drop (m0 f x % 32))
    rw [List.length_drop, hcl] at hs2
    rw [hcl] at hsz
    clear i1 i3 i4 i5 i6 i7 hbY hbp hpre hxk ts1 ts2 HT hcl pf1
    generalize hTT : ((cbytes (cAt L (f / 32 + x))).drop (m0 f x % 32)).take (mL f len x) = T at *
    generalize (cbytes (cAt L (f / 32 + x))).drop (m0 f x % 32) = DD at *
    generalize cbytes (cAt L (f / 32 + x)) = CC at *
    clear hTT
    have hp0 : m0 f x % 32 ≤ 32 := by omega
    obtain ⟨p, hp⟩ : ∃ p, m0 f x % 32 = p := ⟨_, rfl⟩
    rw [hp] at HPO hx1 hs2 pf2 hp0
    clear hp
    generalize hI : mL f len x = il at hx2 pf2 pf3 p1
    have HPO2 : Hid (∀ W, Below V'.heap.size V' W → Calls Try.prog 35 #[.agg #[vu (m0 f x), vu il]] W fun e w' => e = .returned (vu p) ∧ Below W.heap.size W w') := Lib.hid (by rw [← hI]; exact HPO.out)
    have q1 : (p : Int) ≤ 32 := by omega
    have q2 : il ≤ 32 - p := by omega
    have q3 : (il : Int) ≤ ((32 - p : Nat) : Int) := by omega
    have q4 : (il : Int) ≤ 32 - (p : Int) := by omega
    gi_wp2_with fail
    refine region_round_held (S := fun W => W.cell? ⟨w.heap.size, 0, none⟩ = some (.slice A n c) ∧ W.cell? ⟨Bp, 0, none⟩ = some (vu (m0 f x)) ∧ W.cell? ⟨Bp, 1, none⟩ = some (vu il)) (by kernel_rfl) (by kernel_rfl) ⟨f0, p0, p1⟩ (fun hHeld => ?_)
    refine wpAnyH_take (i := 0) (oi := ⟨some 20, _, _, _, _, _⟩) (v := .slice A n c) rfl (by kernel_rfl) (by kernel_rfl) (by kernel_rfl) (fun _ _ _ h => h) (Or.inl ⟨by rfl, ?_⟩) (by assumption) ?_
    · (intro w9 hSw; obtain ⟨s0, s1, s2⟩ := hSw; (try dsimp only at hSw); go_simp; try with_reducible rfl)
    try simp only [Act.put, List.setIfInBounds_toArray, List.set_cons_zero, List.set_cons_succ]
    refine wpAnyH_take (i := 1) (oi := ⟨some 21, _, _, _, _, _⟩) (v := ?_) rfl (by kernel_rfl) (by kernel_rfl) (by kernel_rfl) (fun _ _ _ h => h) (Or.inl ⟨by rfl, ?_⟩) (by assumption) ?_
    rotate_left
    · (intro w9 hSw; (try dsimp only at hSw); go_simp; try with_reducible rfl)
    try simp only [Act.put, List.setIfInBounds_toArray, List.set_cons_zero, List.set_cons_succ]
    refine wpAnyH_take (i := 4) (oi := ⟨some 24, _, _, _, _, _⟩) (v := .agg #[vu (m0 f x), vu il]) rfl (by kernel_rfl) (by kernel_rfl) (by kernel_rfl) (fun _ _ _ h => h) (Or.inl ⟨by rfl, ?_⟩) (by assumption) ?_
    · (intro w9 hSw; obtain ⟨s0, s1, s2⟩ := hSw; (try dsimp only at hSw); go_simp; try with_reducible rfl)
    try simp only [Act.put, List.setIfInBounds_toArray, List.set_cons_zero, List.set_cons_succ]
    refine wpAnyH_take (i := 7) (oi := ⟨some 27, _, _, _, _, _⟩) (v := ?_) rfl (by kernel_rfl) (by kernel_rfl) (by kernel_rfl) (fun _ _ _ h => h) (Or.inl ⟨by rfl, ?_⟩) (by assumption) ?_
    rotate_left
    · (intro w9 hSw; (try dsimp only at hSw); go_simp; try with_reducible rfl)
    try simp only [Act.put, List.setIfInBounds_toArray, List.set_cons_zero, List.set_cons_succ]
    refine wpAnyH_take (i := 8) (oi := ⟨some 28, _, _, _, _, _⟩) (v := vu il) rfl (by kernel_rfl) (by kernel_rfl) (by kernel_rfl) (fun _ _ _ h => h) (Or.inl ⟨by rfl, ?_⟩) (by assumption) ?_
    · (intro w9 hSw; obtain ⟨s0, s1, s2⟩ := hSw; (try dsimp only at hSw); go_simp; try with_reducible rfl)
    try simp only [Act.put, List.setIfInBounds_toArray, List.set_cons_zero, List.set_cons_succ]
    refine wpAnyH_ready (rs := [2]) (by kernel_rfl) (by simp) ?_
    refine AllReadyH.cons (o := ⟨some 22, _, _, _, _, _⟩) rfl (fun K9 hK9 => ?_) AllReadyH.nil
    go_simp; go_at_call 34
    refine (HCB.out _ HBV.out).mono ?_
    rintro e u1 ⟨rfl, ub1⟩
    have UB1 := Lib.hid (bt HBV.out ub1)
    refine hK9.out _ _ ?_ (fun hHeld => ?_)
    · exact ⟨cell_later UB1.out f0, cell_later UB1.out p0, cell_later UB1.out p1⟩
    clear hK9 K9
    try simp only [Act.put, List.setIfInBounds_toArray, List.set_cons_zero, List.set_cons_succ]
    refine wpAnyH_ready (rs := [3]) (by kernel_rfl) (by simp) ?_
    refine AllReadyH.cons (o := ⟨some 23, _, _, _, _, _⟩) rfl (fun K9 hK9 => ?_) AllReadyH.nil
    go_simp; go_at_call 33
    refine (HBO.out _ UB1.out).mono ?_
    rintro e u2 ⟨rfl, ub2⟩
    have UB2 := Lib.hid (bt UB1.out ub2)
    refine hK9.out _ _ ?_ (fun hHeld => ?_)
    · exact ⟨cell_later UB2.out f0, cell_later UB2.out p0, cell_later UB2.out p1⟩
    clear hK9 K9
    try simp only [Act.put, List.setIfInBounds_toArray, List.set_cons_zero, List.set_cons_succ]
    refine wpAnyH_ready (rs := [5]) (by kernel_rfl) (by simp) ?_
    refine AllReadyH.cons (o := ⟨some 25, _, _, _, _, _⟩) rfl (fun K9 hK9 => ?_) AllReadyH.nil
    go_simp; go_at_call 35
    refine (HPO2.out _ UB2.out).mono ?_
    rintro e u3 ⟨rfl, ub3⟩
    have UB3 := Lib.hid (bt UB2.out ub3)
    refine hK9.out _ _ ?_ (fun hHeld => ?_)
    · exact ⟨cell_later UB3.out f0, cell_later UB3.out p0, cell_later UB3.out p1⟩
    clear hK9 K9
    try simp only [Act.put, List.setIfInBounds_toArray, List.set_cons_zero, List.set_cons_succ]
    refine wpAnyH_take (i := 6) (oi := ⟨some 26, _, _, _, _, _⟩) (v := ?_) rfl (by kernel_rfl) (by kernel_rfl) (by kernel_rfl) (fun _ _ _ h => h) (Or.inl ⟨by rfl, ?_⟩) (by assumption) ?_
    rotate_left
    · (intro w9 hSw; (try dsimp only at hSw); go_simp; try with_reducible rfl)
    try simp only [Act.put, List.setIfInBounds_toArray, List.set_cons_zero, List.set_cons_succ]
    refine wpAnyH_take (i := 9) (oi := ⟨some 29, _, _, _, _, _⟩) (v := ?_) rfl (by kernel_rfl) (by kernel_rfl) (by kernel_rfl) (fun _ _ _ h => h) (Or.inl ⟨by rfl, ?_⟩) (by assumption) ?_
    rotate_left
    · (intro w9 hSw; (try dsimp only at hSw); go_simp; try with_reducible rfl)
    try simp only [Act.put, List.setIfInBounds_toArray, List.set_cons_zero, List.set_cons_succ]
    refine wpAnyH_ready (rs := [10]) (by kernel_rfl) (by simp) ?_
    refine AllReadyH.cons (o := ⟨some 30, _, _, _, _, _⟩) rfl (fun K9 hK9 => ?_) AllReadyH.nil
    go_simp; go_at_call 32
    refine (HWS.out _ UB3.out).mono ?_
    rintro e uF ⟨rfl, g1, g2, g3⟩
    have HE := Lib.hid (And.intro g1 (And.intro g2 g3))
    clear g1 g2 g3
    refine hK9.out _ _ ?_ (fun hHeld => ?_)
    · exact ⟨HE.out.2.1.cell 0, HE.out.2.2.cell 0, by have := HE.out.2.2.cell 1; rw [hI] at this; exact this⟩
    clear hK9 K9
    try simp only [Act.put, List.setIfInBounds_toArray, List.set_cons_zero, List.set_cons_succ]
    refine wpAnyH_done (by kernel_rfl) ?_ _
    refine onlyW_normal ?_
    gi_wp2_with fail
    exact HE.out.1
  case done =>
    rintro D Y W hD ⟨v, i1, i3, i4, i5, i6, i7⟩ hbY hYD hKd
    rw [List.length_range, mT_all HN.out.1] at i1
    have HBT := Lib.hid (nbtext_any w.heap.size w1.heap.size v (cread L f len) W i1 (fun e => by have := cread_len L f len; rw [e] at this; have := HN.out.1; simp at *; omega))
    have HBW0 := Lib.hid i7
    have HKD := Lib.hid hKd
    have hzD : w.heap.size ≤ D := by have := HB0.out.size; omega
    clear i1 i3 i4 i5 i6 i7 HB0 HW0 HLB0 HH HI0 hKd
    gi_wp2_with fail
    refine ⟨trivial, ?_⟩
    refine (callsIn_wide.2 HBT.out).mono ?_
    rintro e w9 ⟨rfl, k1, k2⟩
    have hKd := k2 D _ HKD.out rfl
    have HBW : Hid (Below w.heap.size w (w9.putObj D (.deferred none))) := Lib.hid ((HBW0.out.trans k1).grown (grownBy_putObj' w9 D _) (HBW0.out.trans k1).size (fun k e => by cases e; omega))
    clear k1 k2
    gi_wp2
    refine ⟨by simp, .inl ⟨_, _, rfl, run_takeDeferred hKd, ?_⟩⟩
    exact ⟨.tuple #[sv (cread L f len), .int .i64 0], by kernel_rfl, rfl, HBW.out⟩

/-- Read, whatever is asked. -/
def cText (L : List CL) (f len : Nat) : List UInt8 := if cWhy L f len = 0 then cread L f len else []
theorem nread_any (A : Option Addr) (n c f len : Nat) (L : List CL) (w : World) (hA : CR w A L) (hl : L.length = n) (hn : n ≤ 65536) (hf : f < 18446744073709551616) (hm : len < 18446744073709551616) :
    Calls Try.prog 13 #[.slice A n c, .agg #[vu f, vu len]] w fun e w' => e = .returned (.tuple #[sv (cText L f len), .int .i64 (cWhy L f len)]) ∧ Below w.heap.size w w' := by
  by_cases h : cWhy L f len = 0
  · obtain ⟨h1, h2, h3, h4⟩ := cWhy_ok.1 h
    rw [cText, if_pos h, h]
    exact nread_yes A n c f len L w hA hl h1 h2 h3 h4
  · rw [cText, if_neg h]
    exact nread_no A n c f len L w hA hl hn hf hm h
end Go.Proofs.Ytbecambkjmheiaa
/- The law's own few. -/
namespace Go.Proofs.Ytbecambkjmheiaa
open Go.RowKit

/-- What few leaves of a cell, and of cells. -/
def cCut (c : CL) : CL := ⟨c.n, c.s, c.d.take 40⟩
def cFew (L : List CL) : List CL := (L.take 66).map cCut
theorem cFew_len (L : List CL) : (cFew L).length ≤ 66 := by simp [cFew]; omega
theorem ncut_run (A : Option Addr) (len cap m : Nat) (hm : m ≤ cap) (W : World) : (Instr.slice 22 (.slice A len cap) none (some (.int .i64 (m : Int))) none).run Try.prog W = .ok (.slice A m cap) W := by
  obtain ⟨i, hi⟩ : ∃ i, Try.prog.info? 45 = some i := Option.isSome_iff_exists.1 (by kernel_rfl)
  have hb : (Instr.sliceBounds true len cap none (some (.int .i64 (m : Int))) none).run Try.prog W = .ok (0, m, cap) W := by
    have h1 : (0 : Int) ≤ (m : Int) ∧ (m : Int) ≤ (cap : Int) := by omega
    simp [Instr.sliceBounds, Instr.sliceBound, asIntOf, h1]
    omega
  have hA : (if cap = 0 then A else A.map fun x => x.add (0 * i.size)) = A := by
    split
    · rfl
    · cases A <;> simp [Addr.add]
  simp [Instr.slice, run_underlying (P := Try.prog) (w := W) Try.underlying22, hb, sizeOf, typeInfo, hi]
  simpa using hA

set_option maxRecDepth 100000 in
set_option maxHeartbeats 4000000 in
theorem nfew_any (A : Option Addr) (n c : Nat) (L : List CL) (w : World) (hA : CR w A L) (hl : L.length = n) (hc : n ≤ c) :
    Calls Try.prog 6 #[.slice A n c] w fun e w' => ∃ B d, e = .returned (.slice B (cFew L).length d) ∧ (cFew L).length ≤ d ∧ (B = none → d = 0) ∧ CR w' B (cFew L) ∧ Below w.heap.size w w' := by
  obtain ⟨ti, hi, hz0, hz1, hz2⟩ := info_parts infoN
  have HA := Lib.hid hA
  obtain ⟨m, hm⟩ : ∃ m, min n 66 = m := ⟨_, rfl⟩
  have hmn : m ≤ n := by omega
  have hm66 : m ≤ 66 := by omega
  have HFL : Hid ((cFew L).length = m) := Lib.hid (by simp [cFew, hl]; omega)
  have HT : Hid (∀ k, k < m → ((L.take k).map cCut) ++ [cCut (L.getD k default)] = (L.take (k + 1)).map cCut) := Lib.hid fun k hk => by
    have hk' : k < L.length := by omega
    rw [List.take_add_one, List.map_append, cgetD hk']
    simp [hk']
  have HALL : Hid ((L.take m).map cCut = cFew L) := Lib.hid (by
    unfold cFew
    congr 1
    rw [← hm]
    rcases Nat.le_total n 66 with h | h
    · rw [Nat.min_eq_left h, List.take_of_length_le (by omega), List.take_of_length_le (by omega)]
    · rw [Nat.min_eq_right h])
  have HL := Lib.hid hl
  have hcut := fun W => ncut_run A n c m (by omega) W
  have hmin : min (n : Int) 66 = (m : Int) := by omega
  rw [HFL.out]
  clear hA hl
  have hm66i : (n : Int) ≤ 66 ∧ (m : Int) = (n : Int) ∨ ¬ ((n : Int) ≤ 66) ∧ (m : Int) = 66 := by omega
  go_enter Try.func6, Try.ntmps6
  go_wp2_with fail
  go_loopw [3, 12] (fun ov iv wr => ∃ k : Nat, k ≤ m ∧ iv = .int .i64 k ∧ Hid (NO wr w.heap.size ov k ((L.take k).map cCut)) ∧ Below w.heap.size w wr) (fun _ i _ => m - (intOf i).toNat)
  case atStart => exact ⟨0, Nat.zero_le _, rfl, Lib.hid (World.ownsRow_nil _ _ _ _), Below.refl _ _⟩
  case round =>
    obtain ⟨k, hk, rfl, HO, hb⟩ := hrel
    by_cases hlt : k < m
    · obtain ⟨g, off, rfl, c0, c1, c2⟩ := (HA.out.later hb) k (by rw [HL.out]; omega)
      have HTK := Lib.hid (HT.out k hlt)
      have i0 : (0 : Int) ≤ (k : Int) := by omega
      have i1 : (k : Int) < (m : Int) := by omega
      generalize L.getD k default = x at *
      obtain ⟨m2, hm2⟩ : ∃ m2, min x.d.length 40 = m2 := ⟨_, rfl⟩
      have hmin2 : min ((x.d.length : Nat) : Int) 40 = (m2 : Int) := by omega
      have hm2l : m2 ≤ x.d.length := by omega
      have hm2i : (m2 : Int) ≤ ((x.d.length : Nat) : Int) := by omega
      have hsz := size_of x.d
      obtain ⟨D, hD⟩ : ∃ D, x.d.take 40 = D := ⟨_, rfl⟩
      have hx : (⟨x.d.toArray⟩ : ByteArray).extract 0 m2 = ⟨D.toArray⟩ := by
        rw [nextract, List.drop_zero, ← hm2, ← hD]
        congr 2
        rcases Nat.le_total x.d.length 40 with h | h
        · rw [Nat.min_eq_left h, List.take_length, List.take_of_length_le h]
        · rw [Nat.min_eq_right h]
      have hcx : cCut x = ⟨x.n, x.s, D⟩ := by rw [cCut, hD]
      rw [hcx] at HTK
      have hown : NO ((wr.alloc (.cells #[vu x.n, .int .i64 x.s, sv D] 45)).alloc (.cells #[vu x.n, .int .i64 x.s, sv D] 45)) w.heap.size u3 k ((L.take k).map cCut) := no_later HO.out (ba (ba (Below.refl _ _) _) _)
      have hnews : ∀ (j : Nat) (u : Value), (cc ⟨x.n, x.s, D⟩)[j]? = some u → ((wr.alloc (.cells #[vu x.n, .int .i64 x.s, sv D] 45)).alloc (.cells #[vu x.n, .int .i64 x.s, sv D] 45)).cell? ((⟨wr.heap.size + 1, 0, none⟩ : Addr).add j) = some u := fun j u hj => by
        have hbl : Blk ((wr.alloc (.cells #[vu x.n, .int .i64 x.s, sv D] 45)).alloc (.cells #[vu x.n, .int .i64 x.s, sv D] 45)) (wr.heap.size + 1) 45 #[vu x.n, .int .i64 x.s, sv D] := Blk.newAt (by simp) _ _
        rw [Addr.add_lit, Nat.zero_add, hbl.cell, List.getElem?_toArray]
        exact hj
      have h1c : ∀ u ∈ cc ⟨x.n, x.s, D⟩, u.oneCell' = true := by
        intro u hu; simp [cc] at hu; rcases hu with rfl | rfl | rfl <;> rfl
      have HB2 : Hid (Below w.heap.size w ((wr.alloc (.cells #[vu x.n, .int .i64 x.s, sv D] 45)).alloc (.cells #[vu x.n, .int .i64 x.s, sv D] 45))) := Lib.hid (ba (ba hb _) _)
      have hbs : w.heap.size ≤ ((wr.alloc (.cells #[vu x.n, .int .i64 x.s, sv D] 45)).alloc (.cells #[vu x.n, .int .i64 x.s, sv D] 45)).heap.size := by have := hb.size; simp; omega
      clear hD hcx hm2
      go_wp2_with (at_builtin; refine wpList_append_own _ rfl _ _ 22 rfl w.heap.size 45 ti _ 3 32 Try.underlying22 hi hz0 hz1 hz2 rfl (by decide) _ _ _ rfl hown ⟨wr.heap.size + 1, 0, none⟩ 1 1 (cc ⟨x.n, x.s, D⟩) rfl rfl hnews h1c (by unfold maxLen; omega) (by omega) hbs ?_; intro v3 w3 hown3 hgrow3 _)
      refine ⟨⟨k + 1, by omega, by go_num, Lib.hid ?_, HB2.out.grown hgrow3 hbs (fun k e => (no_lt hown e).1)⟩, by simp [intOf]; omega⟩
      rw [← HTK.out]
      show w3.ownsRow _ _ _ _ _ _
      rw [ccells_more, ccells_one1]
      exact hown3
    · obtain rfl : k = m := by omega
      obtain ⟨B, d, rfl, hf⟩ := own_form HO.out
      have HK := Lib.hid (no_cur HO.out)
      have HR := Lib.hid (no_read HO.out)
      have HH := HALL.out
      go_wp2
      go_ret
      refine ⟨B, d, rfl, ?_, ?_, ?_, hb⟩
      · rcases HK.out with ⟨_, h2, h3, _⟩ | ⟨_, _, _, _, _, h3, _⟩ <;> omega
      · intro e
        rcases HK.out with ⟨_, _, h3, _⟩ | ⟨_, _, h3, _⟩
        · exact h3
        · rw [h3] at e; cases e
      · rw [← HH]; exact HR.out
end Go.Proofs.Ytbecambkjmheiaa
