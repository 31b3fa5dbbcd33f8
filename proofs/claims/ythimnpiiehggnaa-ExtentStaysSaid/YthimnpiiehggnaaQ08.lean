/- Texts of this seat, one behind the other: ECollect. -/
import Derived.Maps.OwnIn
import Derived.Test.YthimnpiiehggnaaQ04
import Derived.Test.YthimnpiiehggnaaQ07
/- slices.AppendSeq and slices.Collect over a function that hands runs on. -/
namespace Go.Proofs.Ythimnpiiehggnaa
open Go.RowKit Go.Shelf
attribute [local go_sem] Oper.semAt_some

/-- Between two rounds. -/
def EAI (b0 : Nat) (w : World) (Bx : Nat) (pre : List Rn) (Y : Nat → Prop) (V : World) : Prop :=
  ∃ v, Blk V Bx 22 #[v] ∧ V.ownsRow Bx 47 3 v pre.length (rcells pre) ∧ ¬ Y Bx ∧ (∀ k, v.ownBlock = some k → ¬ Y k) ∧ Below b0 w V
theorem EAI.ab (b0 : Nat) (w : World) (Bx : Nat) : AbE b0 (EAI b0 w Bx) := by
  rintro s X V V' ⟨v, h1, h2, h3, h4, h5⟩ hg hb
  have hl := h1.lt
  refine ⟨v, (hg.block _ hl h3).trans h1, vown_kept h2 (fun k hk => hg.block k (by obtain ⟨_, cs, hc⟩ := vown_blk h2 k hk; exact hc.lt) (h4 k hk)), ?_, ?_, h5.trans hb⟩
  · rintro (h | ⟨h, _⟩)
    · exact h3 h
    · omega
  · intro k hk
    obtain ⟨_, cs, hc⟩ := vown_blk h2 k hk
    have := hc.lt
    rintro (h | ⟨h, _⟩)
    · exact h4 k hk h
    · omega
theorem EAI.below {b0 : Nat} {w : World} {Bx : Nat} {pre : List Rn} {Y : Nat → Prop} {V V' : World} (h : EAI b0 w Bx pre Y V) (hb0 : b0 ≤ V.heap.size) (hb : Below V.heap.size V V') : EAI b0 w Bx pre Y V' := by
  obtain ⟨v, h1, h2, h3, h4, h5⟩ := h
  exact ⟨v, h1.below hb, own_later h2 hb, h3, h4, h5.trans (hb.mono hb0)⟩
/-- A round's end: a run appended, the row stored in its box. -/
theorem EAI.more {b0 : Nat} {w : World} {Bx : Nat} {pre : List Rn} {Y : Nat → Prop} {x : Rn} {V U w6 : World} {v v6 : Value} (hY : Bd Y V) (hb0 : b0 ≤ w.heap.size) (hB0 : b0 ≤ Bx) (h1 : Blk V Bx 22 #[v]) (h2 : V.ownsRow Bx 47 3 v pre.length (rcells pre)) (h3 : ¬ Y Bx) (h4 : ∀ k, v.ownBlock = some k → ¬ Y k) (h5 : Below b0 w V)
    (hU : Below V.heap.size V U) (g1 : w6.ownsRow Bx 47 3 v6 (pre.length + 1) (rcells pre ++ [.int .u64 x.f, .int .u64 x.n, .int .i64 x.s])) (g2 : U.grownBy w6 v.ownBlock) (g3 : v6.ownBlock = v.ownBlock ∨ v6.ownBlock = some U.heap.size) :
    (w6.cell? ⟨Bx, 0, none⟩ = some v ∧ w6.frozen? ⟨Bx, 0, none⟩ = false) ∧ EAI b0 w Bx (pre ++ [x]) Y (w6.setCell ⟨Bx, 0, none⟩ v6) ∧ Keep Y V (w6.setCell ⟨Bx, 0, none⟩ v6) := by
  have hown := own_later h2 hU
  have j2 : Blk w6 Bx 22 #[v] := (g2.block _ (Nat.lt_of_lt_of_le h1.lt hU.size) (fun e => vown_ne hown (h1.below hU) (by decide) e.symm)).trans (h1.below hU)
  have hkp : Keep Y V w6 := ⟨Nat.le_trans hU.size g2.size, fun k hk => (g2.block k (Nat.lt_of_lt_of_le (hY k hk) hU.size) (fun e => h4 k e.symm hk)).trans (hU.block k (hY k hk))⟩
  have hb6 : Below b0 V w6 := (hU.mono (Nat.le_trans hb0 (Nat.le_trans (by have := h5.size; omega) (Nat.le_refl _)))).grown g2 (Nat.le_trans (Nat.le_trans hb0 h5.size) hU.size) (fun k e => Nat.le_trans hB0 (vown_blk hown k e).1)
  have hne6 : ∀ k, v6.ownBlock = some k → k ≠ Bx := fun k hk e => vown_ne g1 j2 (by decide) (by rw [hk, e])
  refine ⟨⟨j2.cell 0, j2.frozen 0⟩, ⟨v6, j2.set_ 0 v6, ?_, h3, ?_, (h5.trans hb6).setCell (p := ⟨Bx, 0, none⟩) hB0 v6⟩, ?_⟩
  · rw [List.length_append, rcells_snoc]
    exact vown_kept g1 (fun k hk => Below.heap_setCell w6 ⟨Bx, 0, none⟩ v6 k (hne6 k hk))
  · intro k hk hy
    rcases g3 with e | e
    · exact h4 k (by rw [← e]; exact hk) hy
    · rw [e] at hk
      injection hk with hk
      have := hY k hy
      have := hU.size
      omega
  · exact Keep.setCell hkp h3 v6

set_option maxRecDepth 100000 in
set_option maxHeartbeats 8000000 in
theorem eappend_any (b0 : Nat) (lb : Array Value) (zs : List Rn) (X0 : Nat → Prop) (w : World) (hH : HandsE b0 5 41 lb rv zs X0 w) (hX0 : ∀ k, X0 k → k < w.heap.size) (hb0 : b0 ≤ w.heap.size) (hl : zs.length ≤ 65536) :
    Calls Try.prog 40 #[.slice none 0 0, .func (.func 41) #[] lb] w fun e w' => ∃ A c, e = .returned (.slice A zs.length c) ∧ w'.ownsRow w.heap.size 47 3 (.slice A zs.length c) zs.length (rcells zs) ∧ Below b0 w w' := by
  obtain ⟨i0, hi0, hz0, hz1, hz2⟩ := info_parts infoE
  have HB0 := ba (Below.refl w.heap.size w) (.cells #[.slice none 0 0] 22)
  have HG0 := Blk.new w 22 #[.slice none 0 0]
  have hz : w.heap.size < (w.alloc (.cells #[.slice none 0 0] 22)).heap.size := by simp
  refine (callsIn_wide (n := 6)).1 ?_
  refine callsIn_of_wp_marks Try.func40 rfl trivial ?_ rfl
  simp only [Try.ntmps40, List.size_toArray, List.length_cons, List.length_nil, Nat.reduceAdd, Nat.reduceSub, Array.replicate_succ, Array.replicate_zero, List.push_toArray, List.append_toArray, List.nil_append, List.cons_append]
  gi_wp2_with fail
  generalize w.alloc (.cells #[.slice none 0 0] 22) = W0 at HB0 HG0 hz ⊢
  refine range_e (n := 6) (b0 := b0) (w0 := w) (by omega) (gf := 41) (lb := lb) rfl ejoined_enters (enc := rv) (zs := zs) (X0 := X0) (by omega) hH (fun k hk => ⟨Nat.lt_of_lt_of_le (hX0 k hk) HB0.size, HB0.block k (hX0 k hk)⟩) (EAI b0 w w.heap.size) (EAI.ab b0 w _) ⟨_, HG0, World.ownsRow_nil _ _ _ _, fun h => by have := hX0 _ h; omega, fun k hk => (by cases hk), HB0.mono hb0⟩
    (fun x a' V => ∃ Bp, Blk V Bp 47 #[.int .u64 x.f, .int .u64 x.n, .int .i64 x.s] ∧ a' = { tmps := #[.slice none 0 0, .func (.func 41) #[] lb, .pointer (some ⟨w.heap.size, 0, none⟩), undef, .slice none 0 0, .pointer (some ⟨Bp, 0, none⟩), .func (.func 41) #[] lb, rv x, undef, undef, undef, undef, undef], defers := [] })
    (fun x a' V' k o o' hs hl ho hc => by
      obtain ⟨Bp, h1, h2⟩ := hs
      refine ⟨Bp, (World.putObj_heap_other (fun e9 => ?_)).trans h1, h2⟩
      subst e9
      rw [show V'.heap[Bp]? = _ from h1] at ho
      cases ho
      cases hc)
    ?assign ?body ?done
  case assign =>
    rintro l9 pre x Y V' K hI hbY _ _ hK
    have HI2 : Hid (EAI b0 w w.heap.size pre Y (V'.alloc (.cells #[.int .u64 x.f, .int .u64 x.n, .int .i64 x.s] 47))) := Lib.hid (hI.below (by obtain ⟨_, _, _, _, _, h5⟩ := hI; exact Nat.le_trans hb0 h5.size) (ba (Below.refl _ _) _))
    have HKP : Hid (Keep Y V' (V'.alloc (.cells #[.int .u64 x.f, .int .u64 x.n, .int .i64 x.s] 47))) := Lib.hid (Keep.of_below (ba (Below.refl _ _) _) hbY)
    have HBP := Lib.hid (Blk.new V' 47 #[.int .u64 x.f, .int .u64 x.n, .int .i64 x.s])
    clear hI hbY
    gi_wp2
    exact hK _ _ HI2.out HKP.out ⟨V'.heap.size, HBP.out, rfl⟩
  case body =>
    rintro l9 pre x a' Y V' hl9 ⟨v, i1, i2, i3, i4, i5⟩ hbY ⟨Bp, hbp, rfl⟩ hpre
    have HLN : Hid (pre.length ≤ 65536) := Lib.hid (by
      have h5 := hpre.length_le
      rw [List.length_append, List.length_singleton] at h5
      omega)
    have HBA := ba (Below.refl V'.heap.size V') (.cells #[.int .u64 x.f, .int .u64 x.n, .int .i64 x.s] 47)
    have HEND : Hid (∀ (v6 : Value) (w6 : World), w6.ownsRow w.heap.size 47 3 v6 (pre.length + 1) (rcells pre ++ [.int .u64 x.f, .int .u64 x.n, .int .i64 x.s]) → (V'.alloc (.cells #[.int .u64 x.f, .int .u64 x.n, .int .i64 x.s] 47)).grownBy w6 v.ownBlock → (v6.ownBlock = v.ownBlock ∨ v6.ownBlock = some (V'.alloc (.cells #[.int .u64 x.f, .int .u64 x.n, .int .i64 x.s] 47)).heap.size) →
        (w6.cell? ⟨w.heap.size, 0, none⟩ = some v ∧ w6.frozen? ⟨w.heap.size, 0, none⟩ = false) ∧ EAI b0 w w.heap.size (pre ++ [x]) Y (w6.setCell ⟨w.heap.size, 0, none⟩ v6) ∧ Keep Y V' (w6.setCell ⟨w.heap.size, 0, none⟩ v6)) := Lib.hid (fun v6 w6 g1 g2 g3 => EAI.more hbY hb0 hb0 i1 i2 i3 i4 i5 HBA g1 g2 g3)
    have hown := own_later i2 HBA
    have hnews : ∀ (j : Nat) (u : Value), ([.int .u64 x.f, .int .u64 x.n, .int .i64 x.s] : List Value)[j]? = some u → (V'.alloc (.cells #[.int .u64 x.f, .int .u64 x.n, .int .i64 x.s] 47)).cell? ((⟨V'.heap.size, 0, none⟩ : Addr).add j) = some u := news_new V' [.int .u64 x.f, .int .u64 x.n, .int .i64 x.s] 47
    have HSZ : Hid (w.heap.size ≤ (V'.alloc (.cells #[.int .u64 x.f, .int .u64 x.n, .int .i64 x.s] 47)).heap.size) := Lib.hid (Nat.le_trans i5.size HBA.size)
    have c1 : V'.cell? ⟨w.heap.size, 0, none⟩ = some v := i1.cell 0
    have e0 : V'.cell? ⟨Bp, 0, none⟩ = some (.int .u64 x.f) := hbp.cell 0
    have e1 : V'.cell? ⟨Bp, 1, none⟩ = some (.int .u64 x.n) := hbp.cell 1
    have e2 : V'.cell? ⟨Bp, 2, none⟩ = some (.int .i64 x.s) := hbp.cell 2
    clear i1 i2 i3 i4 i5 hpre HB0 HG0 hl hbp hbY HBA
    gi_wp2_with (gi_at_builtin; go_must (refine wpListIn_append_own_at _ rfl _ _ 22 rfl w.heap.size 47 i0 (.agg #[.int .u64 0, .int .u64 0, .int .i64 0]) 3 24 Try.underlying22 hi0 hz0 hz1 hz2 rfl (by decide) _ _ _ rfl hown ⟨V'.heap.size, 0, none⟩ 1 1 [.int .u64 x.f, .int .u64 x.n, .int .i64 x.s] rfl rfl hnews (by simp [Value.oneCell']) (by unfold maxLen; have := HLN.out; omega) (by have := HLN.out; omega) HSZ.out ?_); intro v6 w6 hown6 hgr6 _ hat6; obtain ⟨g6, d6, rfl⟩ := ownsRow_succ hown6; have HE6 := Lib.hid (HEND.out _ w6 hown6 hgr6 hat6); have c6 := HE6.out.1.1; have f6 := HE6.out.1.2; clear hown6 hgr6 hat6)
    exact HE6.out.2
  case done =>
    rintro D Y W hD ⟨v, i1, i2, i3, i4, i5⟩ hbY hYD hKd
    obtain ⟨A', c', rfl, hcc⟩ := own_form i2
    clear hcc
    have c0 : W.cell? ⟨w.heap.size, 0, none⟩ = some (.slice A' zs.length c') := i1.cell 0
    have HF : Hid ((W.putObj D (.deferred none)).ownsRow w.heap.size 47 3 (.slice A' zs.length c') zs.length (rcells zs)) := Lib.hid (vown_kept i2 (fun k hk => by
        obtain ⟨_, cs, hb⟩ := vown_blk i2 k hk
        exact (vblk_putObj hb hKd rfl).trans hb.symm))
    have HBW : Hid (Below b0 w (W.putObj D (.deferred none))) := Lib.hid (i5.grown (grownBy_putObj' W D _) (Nat.le_trans hb0 i5.size) (fun k e => by cases e; omega))
    clear i1 i2 i3 i4 i5 HB0 HG0 hH hl
    gi_wp2
    refine ⟨by simp, .inl ⟨_, _, rfl, run_takeDeferred hKd, ?_⟩⟩
    exact ⟨.slice A' zs.length c', by kernel_rfl, A', c', rfl, HF.out, HBW.out⟩

set_option maxHeartbeats 1000000 in
theorem ecollect_any (b0 : Nat) (lb : Array Value) (zs : List Rn) (X0 : Nat → Prop) (w : World) (hH : HandsE b0 5 41 lb rv zs X0 w) (hX0 : ∀ k, X0 k → k < w.heap.size) (hb0 : b0 ≤ w.heap.size) (hl : zs.length ≤ 65536) :
    Calls Try.prog 29 #[.func (.func 41) #[] lb] w fun e w' => ∃ A c, e = .returned (.slice A zs.length c) ∧ w'.ownsRow w.heap.size 47 3 (.slice A zs.length c) zs.length (rcells zs) ∧ Below b0 w w' := by
  have HA := Lib.hid (eappend_any b0 lb zs X0 w hH hX0 hb0 hl)
  clear hH hX0
  go_enter Try.func29, Try.ntmps29
  go_wp2_with fail
  refine (HA.out).mono ?_
  rintro e w1 ⟨A, c, rfl, ho, hb⟩
  go_wp2
  go_ret
  exact ⟨A, c, rfl, ho, hb⟩
end Go.Proofs.Ythimnpiiehggnaa
