/- Texts of this seat, one behind the other: EQuery. -/
import Derived.Sort.CutIn
import Derived.Deep.AppendLies
import Derived.Test.YthimnpiiehggnaaQ03
import Derived.Test.YthimnpiiehggnaaQ08
import Derived.Test.YthimnpiiehggnaaQ09
import Derived.Test.YthimnpiiehggnaaQ15
/- The contract of Query. -/
namespace Go.Proofs.Ythimnpiiehggnaa
open Go.RowKit Go.Shelf
attribute [local go_sem] Oper.semAt_some

/-- Between two rounds. -/
def EQI (b0 : Nat) (w : World) (Bx SB : Nat) (f n : Int) (pre : List Rn) (Y : Nat → Prop) (V : World) : Prop :=
  EAI b0 w Bx (ecut f n pre) Y V ∧ Blk V SB 37 #[.int .u64 f, .int .u64 n] ∧ ¬ Y SB
theorem EQI.ab (b0 : Nat) (w : World) (Bx SB : Nat) (f n : Int) : AbE b0 (EQI b0 w Bx SB f n) := by
  rintro s X V V' ⟨h1, h2, h3⟩ hg hb
  have hl := h2.lt
  refine ⟨EAI.ab b0 w Bx _ X V V' h1 hg hb, (hg.block _ hl h3).trans h2, ?_⟩
  rintro (h | ⟨h, _⟩)
  · exact h3 h
  · omega
theorem EQI.below {b0 : Nat} {w : World} {Bx SB : Nat} {f n : Int} {pre : List Rn} {Y : Nat → Prop} {V V' : World} (h : EQI b0 w Bx SB f n pre Y V) (hb0 : b0 ≤ V.heap.size) (hb : Below V.heap.size V V') : EQI b0 w Bx SB f n pre Y V' :=
  ⟨h.1.below hb0 hb, h.2.1.below hb, h.2.2⟩

theorem onlyW_normal {Q : Exit → Act → World → Prop} {a : Act} {w : World} (h : Q .normal a w) : OnlyW Q .normal a w := h
theorem blk_one {W : World} {g : Nat} {t u : TypeId} {a b : Array Value} (h : Blk W g t a) (k : Blk W g u b) : t = u ∧ a = b := by
  have e : some (Obj.cells a t (0, 0)) = some (Obj.cells b u (0, 0)) := (show W.heap[g]? = _ from h).symm.trans k
  injection e with e
  injection e with e1 e2
  exact ⟨e2, e1⟩

set_option maxRecDepth 100000 in
set_option maxHeartbeats 8000000 in
theorem equery_yes (A : Option Addr) (N c : Nat) (L : List Rn) (f n : Int) (w : World) (hA : ER w A L) (hl : L.length = N) (hu : ∀ r ∈ L, EU r) (h : ERt L) (f0 : 0 ≤ f) (n0 : 1 ≤ n) (fn : f + n ≤ 576460752303423488) :
    Calls Try.prog 20 #[.slice A N c, .agg #[.int .u64 f, .int .u64 n]] w fun e w' => ∃ A' c', e = .returned (.tuple #[.slice A' (ecut f n (eevery 0 L)).length c', .int .i64 0]) ∧ (ecut f n (eevery 0 L)).length ≤ c' ∧ ER w' A' (ecut f n (eevery 0 L)) ∧ Below w.heap.size w w' := by
  have hN : N ≤ 64 := by rw [← hl]; exact h.1
  have HR : Hid (∀ W, Below w.heap.size w W → Calls Try.prog 10 #[.slice A N c] W fun e w' => e = .returned (.bool (decide (ERt L))) ∧ Below W.heap.size W w') := Lib.hid fun W hb => eright_any A N c L W (hA.later hb) hl (by omega) hu
  have HC := Lib.hid (fun W => ecb_any f n W f0 (by omega) (by omega) (by omega))
  have HE : Hid (ewhy f n = 0) := Lib.hid ((ewhy_ok f n (by omega)).2 ⟨n0, fn⟩)
  rw [HE.out] at HC
  rw [decide_eq_true h] at HR
  obtain ⟨i0, hi0, hz0, hz1, hz2⟩ := info_parts infoE
  have HLE : Hid ((eevery 0 L).length ≤ 129) := Lib.hid (by have := eevery_len L 0; have := h.1; omega)
  have HOK : Hid (∀ r ∈ eevery 0 L, 0 ≤ r.f ∧ 1 ≤ r.n ∧ r.f + r.n ≤ 576460752303423488) := Lib.hid (eevery_ok L 0 3 (by omega) h.ec (fun r hr => by have := h.ok r hr; exact ⟨this.1, this.2.2.1⟩))
  have HLK : Hid (ER w A L ∧ EC 0 3 L ∧ (∀ r ∈ L, 0 ≤ r.f ∧ r.f + r.n ≤ 576460752303423488) ∧ L.length = N ∧ N ≤ 65536) := Lib.hid ⟨hA, h.ec, fun r hr => by have := h.ok r hr; exact ⟨this.1, this.2.2.1⟩, hl, by omega⟩
  have HFN : Hid (0 ≤ f ∧ 1 ≤ n ∧ f + n ≤ 576460752303423488) := Lib.hid ⟨f0, n0, fn⟩
  clear h hA hl hu f0 n0 fn HE
  refine (callsIn_wide (n := 6)).1 ?_
  refine callsIn_of_wp_marks Try.func20 rfl trivial ?_ rfl
  simp only [Try.ntmps20, List.size_toArray, List.length_cons, List.length_nil, Nat.reduceAdd, Nat.reduceSub, Array.replicate_succ, Array.replicate_zero, List.push_toArray, List.append_toArray, List.nil_append, List.cons_append]
  gi_wp2_with fail
  refine ⟨trivial, ?_⟩
  refine (callsIn_wide.2 (HR.out _ (ba (Below.refl _ _) _))).mono ?_
  rintro e w1 ⟨rfl, hb1⟩
  have HK1 := Lib.hid ((Blk.new w 37 #[.int .u64 f, .int .u64 n]).below hb1)
  have HB1 := Lib.hid (bt (ba (Below.refl w.heap.size w) _) hb1)
  have q0 : w1.cell? ⟨w.heap.size, 0, none⟩ = some (.int .u64 f) := HK1.out.cell 0
  have q1 : w1.cell? ⟨w.heap.size, 1, none⟩ = some (.int .u64 n) := HK1.out.cell 1
  clear hb1
  gi_wp2_with fail
  refine ⟨trivial, ?_⟩
  refine (callsIn_wide.2 (HC.out _)).mono ?_
  rintro e w2 ⟨rfl, hb2⟩
  have HK2 := Lib.hid (HK1.out.below hb2)
  have HB2 := Lib.hid (bt HB1.out hb2)
  clear hb2 q0 q1 HK1 HB1
  gi_wp2_with fail
  refine ⟨trivial, ?_⟩
  refine (callsIn_wide.2 (eevery_any _ _ _ _)).mono ?_
  rintro e w3 ⟨rfl, rfl⟩
  gi_wp2_with fail
  -- LOOP
  have HW0 : Hid (Below w2.heap.size w2 ((w2.alloc (.cells #[.slice none 0 0] 22)).alloc (.cells #[.slice A N c] 22)) ∧ Blk ((w2.alloc (.cells #[.slice none 0 0] 22)).alloc (.cells #[.slice A N c] 22)) w2.heap.size 22 #[.slice none 0 0] ∧ Blk ((w2.alloc (.cells #[.slice none 0 0] 22)).alloc (.cells #[.slice A N c] 22)) (w2.heap.size + 1) 22 #[.slice A N c] ∧ ((w2.alloc (.cells #[.slice none 0 0] 22)).alloc (.cells #[.slice A N c] 22)).heap.size = w2.heap.size + 2) := Lib.hid ⟨ba (ba (Below.refl _ _) _) _, (Blk.new _ _ _).alloc _, Blk.newAt (by simp) _ _, by simp⟩
  generalize ((w2.alloc (.cells #[.slice none 0 0] 22)).alloc (.cells #[.slice A N c] 22)) = W0 at HW0 ⊢
  have HB0 := Lib.hid (bt HB2.out HW0.out.1)
  have HK0 := Lib.hid (HK2.out.below HW0.out.1)
  have hgA : ∀ k o, L ≠ [] → A = some ⟨k, o, none⟩ → k < w.heap.size := fun k o hne e => by
    have h9 := HLK.out.1
    rw [e] at h9
    exact h9.lt (List.length_pos_iff.2 hne)
  have hz8 : w.heap.size < w2.heap.size := HK2.out.lt
  have hz9 := HW0.out.2.2.2
  refine range_e (n := 6) (b0 := w.heap.size) (w0 := W0) (by omega) (gf := 49) (lb := #[.pointer (some ⟨w2.heap.size + 1, 0, none⟩)]) rfl eevery_enters (enc := rv) (zs := eevery 0 L) (X0 := (fun k => k = w2.heap.size + 1 ∨ (L ≠ [] ∧ ∃ o, A = some ⟨k, o, none⟩))) (by omega) (eevery_hands w.heap.size 5 (by omega) (w2.heap.size + 1) N c A L W0 HW0.out.2.2.1 HLK.out.2.2.2.1 HLK.out.2.2.2.2 (HLK.out.1.later HB0.out) HLK.out.2.1 HLK.out.2.2.1) (fun k hk => ⟨by
      rcases hk with rfl | ⟨hne, o, e⟩
      · omega
      · have := hgA k o hne e
        omega, rfl⟩) (EQI w.heap.size w w2.heap.size w.heap.size f n) (EQI.ab _ _ _ _ _ _) ⟨⟨_, HW0.out.2.1, World.ownsRow_nil _ _ _ _, fun h => by
      rcases h with h | ⟨hne, o, e⟩
      · omega
      · have := hgA _ o hne e
        omega, fun k hk => (by cases hk), HB0.out⟩, HK0.out, fun h => by
      rcases h with h | ⟨hne, o, e⟩
      · omega
      · have := hgA _ o hne e
        omega⟩
    (fun x a' V => ∃ Bp v, Blk V w2.heap.size 22 #[v] ∧ v.ownBlock ≠ some Bp ∧ Blk V Bp 47 #[.int .u64 x.f, .int .u64 x.n, .int .i64 x.s] ∧ a' = { tmps := #[.slice A N c, .agg #[.int .u64 f, .int .u64 n], undef, .pointer (some ⟨w.heap.size, 0, none⟩), .slice none 0 0, .int .i64 0, .int .i64 0, .pointer (some ⟨w2.heap.size, 0, none⟩), .pointer (some ⟨Bp, 0, none⟩), undef, undef, .slice A N c, .bool true, .bool false, .agg #[.int .u64 f, .int .u64 n], .int .i64 0, .int .i64 0, .bool false, undef, .slice A N c, .func (.func 49) #[] #[.pointer (some ⟨w2.heap.size + 1, 0, none⟩)], rv x, undef, undef, undef, undef, undef, undef, undef, undef, undef, undef, undef, undef, undef, undef, undef, undef, undef], defers := [] })
    (fun x a' V' k o o' hs hl ho hc => by
      obtain ⟨Bp, v, h3, h4, h1, h2⟩ := hs
      exact ⟨Bp, v, vblk_putObj h3 ho hc, h4, vblk_putObj h1 ho hc, h2⟩)
    ?assign ?body ?done
  case assign =>
    rintro l9 pre x Y V' K hI hbY _ _ hK
    have HI2 : Hid (EQI w.heap.size w w2.heap.size w.heap.size f n pre Y (V'.alloc (.cells #[.int .u64 x.f, .int .u64 x.n, .int .i64 x.s] 47))) := Lib.hid (hI.below (by obtain ⟨⟨_, _, _, _, _, h5⟩, _⟩ := hI; exact h5.size) (ba (Below.refl _ _) _))
    have HKP : Hid (Keep Y V' (V'.alloc (.cells #[.int .u64 x.f, .int .u64 x.n, .int .i64 x.s] 47))) := Lib.hid (Keep.of_below (ba (Below.refl _ _) _) hbY)
    have HBP := Lib.hid (Blk.new V' 47 #[.int .u64 x.f, .int .u64 x.n, .int .i64 x.s])
    have HRV : Hid (∃ v, Blk (V'.alloc (.cells #[.int .u64 x.f, .int .u64 x.n, .int .i64 x.s] 47)) w2.heap.size 22 #[v] ∧ v.ownBlock ≠ some V'.heap.size) := Lib.hid (by
      obtain ⟨⟨v, h1, h2, _⟩, _⟩ := hI
      exact ⟨v, h1.alloc _, fun e => by obtain ⟨_, cs, hc⟩ := vown_blk h2 _ e; exact absurd hc.lt (Nat.lt_irrefl _)⟩)
    clear hI hbY
    gi_wp2
    obtain ⟨v, h1, h2⟩ := HRV.out
    exact hK _ _ HI2.out HKP.out ⟨V'.heap.size, v, h1, h2, HBP.out, rfl⟩
  case body =>
    rintro l9 pre x a' Y V' hl9 hI hbY ⟨Bp, v, hv, hne, hbp, rfl⟩ hpre
    have HX : Hid (0 ≤ x.f ∧ 1 ≤ x.n ∧ x.f + x.n ≤ 576460752303423488) := Lib.hid (HOK.out x (hpre.subset (by simp)))
    have HP := Lib.hid (fun (r : Rn) W => espan_any r W)
    have HRN := Lib.hid (fun (a b d : Int) W => erun_any a b d W)
    have hx9 := HX.out
    have hf9 := HFN.out
    have HI := Lib.hid hI
    have HLOW : Hid (w.heap.size ≤ V'.heap.size) := Lib.hid (by obtain ⟨⟨_, _, _, _, _, h5⟩, _⟩ := hI; exact h5.size)
    have HV : Hid (Blk V' w2.heap.size 22 #[v] ∧ v.ownBlock ≠ some Bp ∧ V'.ownsRow w2.heap.size 47 3 v (ecut f n pre).length (rcells (ecut f n pre)) ∧ ¬ Y w2.heap.size ∧ (∀ k, v.ownBlock = some k → ¬ Y k) ∧ Below w.heap.size w V' ∧ Bp ≠ w2.heap.size) := Lib.hid (by
      obtain ⟨⟨v2, h1, h2, h3, h4, h5⟩, _⟩ := hI
      have e := (blk_one h1 hv).2
      have e2 : v2 = v := by injection e with e; injection e with e _
      subst e2
      exact ⟨h1, hne, h2, h3, h4, h5, fun e => by rw [e] at hbp; exact absurd (blk_one hbp h1).1 (by decide)⟩)
    have HLN : Hid ((ecut f n pre).length ≤ 4096) := Lib.hid (by
      have h1 : (ecut f n pre).length ≤ pre.length := List.length_filterMap_le _ _
      have h2 := hpre.length_le
      rw [List.length_append, List.length_singleton] at h2
      have := HLE.out
      omega)
    have HBP := Lib.hid hbp
    have HBY := Lib.hid hbY
    have a0 : V'.drew.cell? ⟨Bp, 0, none⟩ = some (.int .u64 x.f) := hbp.cell 0
    have a1 : V'.drew.cell? ⟨Bp, 1, none⟩ = some (.int .u64 x.n) := hbp.cell 1
    have a2 : V'.drew.cell? ⟨Bp, 2, none⟩ = some (.int .i64 x.s) := hbp.cell 2
    have a3 : V'.drew.cell? ⟨w.heap.size, 0, none⟩ = some (.int .u64 f) := hI.2.1.cell 0
    have a4 : V'.drew.cell? ⟨w.heap.size, 1, none⟩ = some (.int .u64 n) := hI.2.1.cell 1
    have ab : Below V'.heap.size V' V'.drew := (Below.refl _ _).drew
    clear hI hbp hbY hv hne hpre
    by_cases hm : max x.f f ≤ min (x.f + (x.n - 1)) (f + (n - 1))
    · have HC9 := Lib.hid (fun W => cut_meet x.f x.n f n W hx9.1 hx9.2.1 (by omega) (by omega) hf9.1 hf9.2.1 (by omega) hm)
      have HQ9 : Hid (ecut f n (pre ++ [x]) = ecut f n pre ++ [⟨max x.f f, min (x.f + (x.n - 1)) (f + (n - 1)) - max x.f f + 1, x.s⟩]) := Lib.hid (by unfold ecut; rw [List.filterMap_append, List.filterMap_cons]; simp only [ecut1, if_pos hm]; rfl)
      generalize min (x.f + (x.n - 1)) (f + (n - 1)) - max x.f f + 1 = cn at HC9 HQ9
      generalize max x.f f = cf at HC9 HQ9
      clear hm hx9 hf9
      gi_wp2_with fail
      gi_cut [9, 10] from 22 (fun s9 s10 wx => ∃ t9, s9 = .pointer (some ⟨t9, 0, none⟩) ∧ s10 = .int .i64 0 ∧ Hid (Below V'.heap.size V' wx) ∧ Hid (Blk wx t9 37 #[.int .u64 cf, .int .u64 cn]))
      case first =>
        refine region_round_held (S := fun Wq => Wq.cell? ⟨Bp, 0, none⟩ = some (.int .u64 x.f) ∧ Wq.cell? ⟨Bp, 1, none⟩ = some (.int .u64 x.n) ∧ Wq.cell? ⟨Bp, 2, none⟩ = some (.int .i64 x.s) ∧ Wq.cell? ⟨w.heap.size, 0, none⟩ = some (.int .u64 f) ∧ Wq.cell? ⟨w.heap.size, 1, none⟩ = some (.int .u64 n) ∧ Below V'.heap.size V' Wq) (by kernel_rfl) (by kernel_rfl) ⟨a0, a1, a2, a3, a4, ab⟩ (fun hHeld => ?_)
        refine wpAnyH_take (i := 0) (oi := ⟨some 23, _, _, _, _, _⟩) (v := .agg #[.int .u64 x.f, .int .u64 x.n, .int .i64 x.s]) rfl (by kernel_rfl) (by kernel_rfl) (by kernel_rfl) (fun _ _ _ h => h) (Or.inl ⟨by rfl, ?_⟩) (by assumption) ?_
        · (intro w9 hSw; obtain ⟨q0, q1, q2, q3, q4, _⟩ := hSw; (try dsimp only at hSw); go_simp; try with_reducible rfl)
        try simp only [Act.put, List.setIfInBounds_toArray, List.set_cons_zero, List.set_cons_succ]
        refine wpAnyH_take (i := 2) (oi := ⟨some 25, _, _, _, _, _⟩) (v := .agg #[.int .u64 f, .int .u64 n]) rfl (by kernel_rfl) (by kernel_rfl) (by kernel_rfl) (fun _ _ _ h => h) (Or.inl ⟨by rfl, ?_⟩) (by assumption) ?_
        · (intro w9 hSw; obtain ⟨q0, q1, q2, q3, q4, _⟩ := hSw; (try dsimp only at hSw); go_simp; try with_reducible rfl)
        try simp only [Act.put, List.setIfInBounds_toArray, List.set_cons_zero, List.set_cons_succ]
        refine wpAnyH_ready (rs := [1, 7]) (by kernel_rfl) (by simp) ?_
        refine AllReadyH.cons (o := ⟨some 24, _, _, _, _, _⟩) rfl (fun K9 hK9 => ?_) ?_
        · skip
          go_simp; go_at_call 37
          refine (HP.out x _).mono ?_
          rintro e u1 ⟨rfl, h1⟩
          have u1S : u1.cell? ⟨Bp, 0, none⟩ = some (.int .u64 x.f) ∧ u1.cell? ⟨Bp, 1, none⟩ = some (.int .u64 x.n) ∧ u1.cell? ⟨Bp, 2, none⟩ = some (.int .i64 x.s) ∧ u1.cell? ⟨w.heap.size, 0, none⟩ = some (.int .u64 f) ∧ u1.cell? ⟨w.heap.size, 1, none⟩ = some (.int .u64 n) ∧ Below V'.heap.size V' u1 := ⟨ecell h1 a0, ecell h1 a1, ecell h1 a2, ecell h1 a3, ecell h1 a4, bt ab h1⟩
          obtain ⟨u1c0, u1c1, u1c2, u1c3, u1c4, u1b⟩ := u1S
          refine hK9.out _ _ ?_ (fun hHeld => ?_)
          · exact ⟨u1c0, u1c1, u1c2, u1c3, u1c4, u1b⟩
          clear hK9 K9
          try simp only [Act.put, List.setIfInBounds_toArray, List.set_cons_zero, List.set_cons_succ]
          refine wpAnyH_ready (rs := [3, 7]) (by kernel_rfl) (by simp) ?_
          refine AllReadyH.cons (o := ⟨some 26, _, _, _, _, _⟩) rfl (fun K9 hK9 => ?_) ?_
          · skip
            go_simp; go_at_call 36
            refine (HC9.out _).mono ?_
            rintro e u2 ⟨rfl, h2⟩
            have u2S : u2.cell? ⟨Bp, 0, none⟩ = some (.int .u64 x.f) ∧ u2.cell? ⟨Bp, 1, none⟩ = some (.int .u64 x.n) ∧ u2.cell? ⟨Bp, 2, none⟩ = some (.int .i64 x.s) ∧ u2.cell? ⟨w.heap.size, 0, none⟩ = some (.int .u64 f) ∧ u2.cell? ⟨w.heap.size, 1, none⟩ = some (.int .u64 n) ∧ Below V'.heap.size V' u2 := ⟨ecell h2 u1c0, ecell h2 u1c1, ecell h2 u1c2, ecell h2 u1c3, ecell h2 u1c4, bt u1b h2⟩
            obtain ⟨u2c0, u2c1, u2c2, u2c3, u2c4, u2b⟩ := u2S
            refine hK9.out _ _ ?_ (fun hHeld => ?_)
            · exact ⟨u2c0, u2c1, u2c2, u2c3, u2c4, u2b⟩
            clear hK9 K9
            try simp only [Act.put, List.setIfInBounds_toArray, List.set_cons_zero, List.set_cons_succ]
            refine wpAnyH_take (i := 4) (oi := ⟨some 22, _, _, _, _, _⟩) (v := ?_) rfl (by kernel_rfl) (by kernel_rfl) (by kernel_rfl) (fun _ _ _ h => h) (Or.inl ⟨by rfl, ?_⟩) (by assumption) ?_
            rotate_left
            · (intro w9 hSw; (try dsimp only at hSw); go_simp; try with_reducible rfl)
            try simp only [Act.put, List.setIfInBounds_toArray, List.set_cons_zero, List.set_cons_succ]
            refine wpAnyH_take (i := 5) (oi := ⟨some 27, _, _, _, _, _⟩) (v := ?_) rfl (by kernel_rfl) (by kernel_rfl) (by kernel_rfl) (fun _ _ _ h => h) (Or.inl ⟨by rfl, ?_⟩) (by assumption) ?_
            rotate_left
            · (intro w9 hSw; (try dsimp only at hSw); go_simp; try with_reducible rfl)
            try simp only [Act.put, List.setIfInBounds_toArray, List.set_cons_zero, List.set_cons_succ]
            refine wpAnyH_take (i := 6) (oi := ⟨some 28, _, _, _, _, _⟩) (v := ?_) rfl (by kernel_rfl) (by kernel_rfl) (by kernel_rfl) (fun _ _ _ h => h) (Or.inl ⟨by rfl, ?_⟩) (by assumption) ?_
            rotate_left
            · (intro w9 hSw; (try dsimp only at hSw); go_simp; try with_reducible rfl)
            try simp only [Act.put, List.setIfInBounds_toArray, List.set_cons_zero, List.set_cons_succ]
            refine wpAnyH_ready (rs := [7]) (by kernel_rfl) (by simp) ?_
            refine AllReadyH.cons (o := ⟨some 9, _, _, _, _, _⟩) rfl (fun K9 hK9 => ?_) AllReadyH.nil
            go_simp
            have h3 : Below u2.heap.size u2 (u2.alloc (.cells #[.int .u64 0, .int .u64 0] 37)) := ba (Below.refl _ _) _
            have u3T0 : Blk (u2.alloc (.cells #[.int .u64 0, .int .u64 0] 37)) u2.heap.size 37 #[.int .u64 0, .int .u64 0] := Blk.new _ _ _
            generalize (u2.alloc (.cells #[.int .u64 0, .int .u64 0] 37)) = u3 at h3 u3T0 ⊢
            generalize hq9 : u2.heap.size = t9 at u3T0 ⊢
            have ht9 : V'.heap.size ≤ t9 := (by rw [← hq9]; exact u2b.size)
            have u3S : u3.cell? ⟨Bp, 0, none⟩ = some (.int .u64 x.f) ∧ u3.cell? ⟨Bp, 1, none⟩ = some (.int .u64 x.n) ∧ u3.cell? ⟨Bp, 2, none⟩ = some (.int .i64 x.s) ∧ u3.cell? ⟨w.heap.size, 0, none⟩ = some (.int .u64 f) ∧ u3.cell? ⟨w.heap.size, 1, none⟩ = some (.int .u64 n) ∧ Below V'.heap.size V' u3 := ⟨ecell h3 u2c0, ecell h3 u2c1, ecell h3 u2c2, ecell h3 u2c3, ecell h3 u2c4, bt u2b h3⟩
            obtain ⟨u3c0, u3c1, u3c2, u3c3, u3c4, u3b⟩ := u3S
            refine hK9.out _ _ ?_ (fun hHeld => ?_)
            · exact ⟨u3c0, u3c1, u3c2, u3c3, u3c4, u3b⟩
            clear hK9 K9
            try simp only [Act.put, List.setIfInBounds_toArray, List.set_cons_zero, List.set_cons_succ]
            refine wpAnyH_ready (rs := [8]) (by kernel_rfl) (by simp) ?_
            refine AllReadyH.cons (o := ⟨none, _, _, _, _, _⟩) rfl (fun K9 hK9 => ?_) AllReadyH.nil
            have t90 : u3.cell? ⟨t9, 0, none⟩ = some (.int .u64 0) := u3T0.cell 0; have t91 : u3.cell? ⟨t9, 1, none⟩ = some (.int .u64 0) := u3T0.cell 1; have t92 : u3.frozen? ⟨t9, 0, none⟩ = false := u3T0.frozen 0; have t93 : u3.frozen? ⟨t9, 1, none⟩ = false := u3T0.frozen 1; go_simp
            have hst : Blk ((u3.setCell ⟨t9, 0, none⟩ (.int .u64 cf)).setCell ⟨t9, 1, none⟩ (.int .u64 cn)) t9 37 #[.int .u64 cf, .int .u64 cn] := (u3T0.set_ 0 _).set_ 1 _
            have hsb : Below V'.heap.size V' ((u3.setCell ⟨t9, 0, none⟩ (.int .u64 cf)).setCell ⟨t9, 1, none⟩ (.int .u64 cn)) := (u3b.setCell (p := ⟨t9, 0, none⟩) ht9 _).setCell (p := ⟨t9, 1, none⟩) ht9 _
            generalize ((u3.setCell ⟨t9, 0, none⟩ (.int .u64 cf)).setCell ⟨t9, 1, none⟩ (.int .u64 cn)) = uF at hst hsb ⊢
            refine hK9.out _ _ ?_ (fun hHeld => ?_)
            · exact ⟨ecell hsb a0, ecell hsb a1, ecell hsb a2, ecell hsb a3, ecell hsb a4, hsb⟩
            clear hK9 K9
            try simp only [Act.put]
            refine wpAnyH_take (i := 9) (oi := ⟨some 10, _, _, _, _, _⟩) (v := ?_) rfl (by kernel_rfl) (by kernel_rfl) (by kernel_rfl) (fun _ _ _ h => h) (Or.inl ⟨by rfl, ?_⟩) (by assumption) ?_
            rotate_left
            · (intro w9 hSw; (try dsimp only at hSw); go_simp; try with_reducible rfl)
            try simp only [Act.put, List.setIfInBounds_toArray, List.set_cons_zero, List.set_cons_succ]
            refine wpAnyH_done (by kernel_rfl) ?_ _
            refine onlyW_normal ?_
            gi_wp2_with fail
            gi_meet
            case rel => exact ⟨t9, rfl, rfl, Lib.hid hsb, Lib.hid hst⟩
          refine AllReadyH.cons (o := ⟨some 9, _, _, _, _, _⟩) rfl (fun K9 hK9 => ?_) AllReadyH.nil
          · skip
            go_simp
            have h2 : Below u1.heap.size u1 (u1.alloc (.cells #[.int .u64 0, .int .u64 0] 37)) := ba (Below.refl _ _) _
            have u2T0 : Blk (u1.alloc (.cells #[.int .u64 0, .int .u64 0] 37)) u1.heap.size 37 #[.int .u64 0, .int .u64 0] := Blk.new _ _ _
            generalize (u1.alloc (.cells #[.int .u64 0, .int .u64 0] 37)) = u2 at h2 u2T0 ⊢
            generalize hq9 : u1.heap.size = t9 at u2T0 ⊢
            have ht9 : V'.heap.size ≤ t9 := (by rw [← hq9]; exact u1b.size)
            have u2S : u2.cell? ⟨Bp, 0, none⟩ = some (.int .u64 x.f) ∧ u2.cell? ⟨Bp, 1, none⟩ = some (.int .u64 x.n) ∧ u2.cell? ⟨Bp, 2, none⟩ = some (.int .i64 x.s) ∧ u2.cell? ⟨w.heap.size, 0, none⟩ = some (.int .u64 f) ∧ u2.cell? ⟨w.heap.size, 1, none⟩ = some (.int .u64 n) ∧ Below V'.heap.size V' u2 := ⟨ecell h2 u1c0, ecell h2 u1c1, ecell h2 u1c2, ecell h2 u1c3, ecell h2 u1c4, bt u1b h2⟩
            obtain ⟨u2c0, u2c1, u2c2, u2c3, u2c4, u2b⟩ := u2S
            refine hK9.out _ _ ?_ (fun hHeld => ?_)
            · exact ⟨u2c0, u2c1, u2c2, u2c3, u2c4, u2b⟩
            clear hK9 K9
            try simp only [Act.put, List.setIfInBounds_toArray, List.set_cons_zero, List.set_cons_succ]
            refine wpAnyH_ready (rs := [3]) (by kernel_rfl) (by simp) ?_
            refine AllReadyH.cons (o := ⟨some 26, _, _, _, _, _⟩) rfl (fun K9 hK9 => ?_) AllReadyH.nil
            go_simp; go_at_call 36
            refine (HC9.out _).mono ?_
            rintro e u3 ⟨rfl, h3⟩
            have u3S : u3.cell? ⟨Bp, 0, none⟩ = some (.int .u64 x.f) ∧ u3.cell? ⟨Bp, 1, none⟩ = some (.int .u64 x.n) ∧ u3.cell? ⟨Bp, 2, none⟩ = some (.int .i64 x.s) ∧ u3.cell? ⟨w.heap.size, 0, none⟩ = some (.int .u64 f) ∧ u3.cell? ⟨w.heap.size, 1, none⟩ = some (.int .u64 n) ∧ Below V'.heap.size V' u3 := ⟨ecell h3 u2c0, ecell h3 u2c1, ecell h3 u2c2, ecell h3 u2c3, ecell h3 u2c4, bt u2b h3⟩
            obtain ⟨u3c0, u3c1, u3c2, u3c3, u3c4, u3b⟩ := u3S
            have u3T := u2T0.below h3
            refine hK9.out _ _ ?_ (fun hHeld => ?_)
            · exact ⟨u3c0, u3c1, u3c2, u3c3, u3c4, u3b⟩
            clear hK9 K9
            try simp only [Act.put, List.setIfInBounds_toArray, List.set_cons_zero, List.set_cons_succ]
            refine wpAnyH_take (i := 4) (oi := ⟨some 22, _, _, _, _, _⟩) (v := ?_) rfl (by kernel_rfl) (by kernel_rfl) (by kernel_rfl) (fun _ _ _ h => h) (Or.inl ⟨by rfl, ?_⟩) (by assumption) ?_
            rotate_left
            · (intro w9 hSw; (try dsimp only at hSw); go_simp; try with_reducible rfl)
            try simp only [Act.put, List.setIfInBounds_toArray, List.set_cons_zero, List.set_cons_succ]
            refine wpAnyH_take (i := 5) (oi := ⟨some 27, _, _, _, _, _⟩) (v := ?_) rfl (by kernel_rfl) (by kernel_rfl) (by kernel_rfl) (fun _ _ _ h => h) (Or.inl ⟨by rfl, ?_⟩) (by assumption) ?_
            rotate_left
            · (intro w9 hSw; (try dsimp only at hSw); go_simp; try with_reducible rfl)
            try simp only [Act.put, List.setIfInBounds_toArray, List.set_cons_zero, List.set_cons_succ]
            refine wpAnyH_take (i := 6) (oi := ⟨some 28, _, _, _, _, _⟩) (v := ?_) rfl (by kernel_rfl) (by kernel_rfl) (by kernel_rfl) (fun _ _ _ h => h) (Or.inl ⟨by rfl, ?_⟩) (by assumption) ?_
            rotate_left
            · (intro w9 hSw; (try dsimp only at hSw); go_simp; try with_reducible rfl)
            try simp only [Act.put, List.setIfInBounds_toArray, List.set_cons_zero, List.set_cons_succ]
            refine wpAnyH_ready (rs := [8]) (by kernel_rfl) (by simp) ?_
            refine AllReadyH.cons (o := ⟨none, _, _, _, _, _⟩) rfl (fun K9 hK9 => ?_) AllReadyH.nil
            have t90 : u3.cell? ⟨t9, 0, none⟩ = some (.int .u64 0) := u3T.cell 0; have t91 : u3.cell? ⟨t9, 1, none⟩ = some (.int .u64 0) := u3T.cell 1; have t92 : u3.frozen? ⟨t9, 0, none⟩ = false := u3T.frozen 0; have t93 : u3.frozen? ⟨t9, 1, none⟩ = false := u3T.frozen 1; go_simp
            have hst : Blk ((u3.setCell ⟨t9, 0, none⟩ (.int .u64 cf)).setCell ⟨t9, 1, none⟩ (.int .u64 cn)) t9 37 #[.int .u64 cf, .int .u64 cn] := (u3T.set_ 0 _).set_ 1 _
            have hsb : Below V'.heap.size V' ((u3.setCell ⟨t9, 0, none⟩ (.int .u64 cf)).setCell ⟨t9, 1, none⟩ (.int .u64 cn)) := (u3b.setCell (p := ⟨t9, 0, none⟩) ht9 _).setCell (p := ⟨t9, 1, none⟩) ht9 _
            generalize ((u3.setCell ⟨t9, 0, none⟩ (.int .u64 cf)).setCell ⟨t9, 1, none⟩ (.int .u64 cn)) = uF at hst hsb ⊢
            refine hK9.out _ _ ?_ (fun hHeld => ?_)
            · exact ⟨ecell hsb a0, ecell hsb a1, ecell hsb a2, ecell hsb a3, ecell hsb a4, hsb⟩
            clear hK9 K9
            try simp only [Act.put]
            refine wpAnyH_take (i := 9) (oi := ⟨some 10, _, _, _, _, _⟩) (v := ?_) rfl (by kernel_rfl) (by kernel_rfl) (by kernel_rfl) (fun _ _ _ h => h) (Or.inl ⟨by rfl, ?_⟩) (by assumption) ?_
            rotate_left
            · (intro w9 hSw; (try dsimp only at hSw); go_simp; try with_reducible rfl)
            try simp only [Act.put, List.setIfInBounds_toArray, List.set_cons_zero, List.set_cons_succ]
            refine wpAnyH_done (by kernel_rfl) ?_ _
            refine onlyW_normal ?_
            gi_wp2_with fail
            gi_meet
            case rel => exact ⟨t9, rfl, rfl, Lib.hid hsb, Lib.hid hst⟩
        refine AllReadyH.cons (o := ⟨some 9, _, _, _, _, _⟩) rfl (fun K9 hK9 => ?_) AllReadyH.nil
        · skip
          go_simp
          have h1 : Below V'.heap.size V' (V'.alloc (.cells #[.int .u64 0, .int .u64 0] 37)).drew := (ba (Below.refl _ _) _).drew
          have u1T0 : Blk (V'.alloc (.cells #[.int .u64 0, .int .u64 0] 37)).drew V'.heap.size 37 #[.int .u64 0, .int .u64 0] := Blk.new _ _ _
          generalize (V'.alloc (.cells #[.int .u64 0, .int .u64 0] 37)).drew = u1 at h1 u1T0 ⊢
          generalize hq9 : V'.heap.size = t9 at u1T0 ⊢
          have ht9 : V'.heap.size ≤ t9 := Nat.le_of_eq hq9
          have u1S : u1.cell? ⟨Bp, 0, none⟩ = some (.int .u64 x.f) ∧ u1.cell? ⟨Bp, 1, none⟩ = some (.int .u64 x.n) ∧ u1.cell? ⟨Bp, 2, none⟩ = some (.int .i64 x.s) ∧ u1.cell? ⟨w.heap.size, 0, none⟩ = some (.int .u64 f) ∧ u1.cell? ⟨w.heap.size, 1, none⟩ = some (.int .u64 n) ∧ Below V'.heap.size V' u1 := ⟨ecell h1 a0, ecell h1 a1, ecell h1 a2, ecell h1 a3, ecell h1 a4, bt (Below.refl V'.heap.size V') h1⟩
          obtain ⟨u1c0, u1c1, u1c2, u1c3, u1c4, u1b⟩ := u1S
          refine hK9.out _ _ ?_ (fun hHeld => ?_)
          · exact ⟨u1c0, u1c1, u1c2, u1c3, u1c4, u1b⟩
          clear hK9 K9
          try simp only [Act.put, List.setIfInBounds_toArray, List.set_cons_zero, List.set_cons_succ]
          refine wpAnyH_ready (rs := [1]) (by kernel_rfl) (by simp) ?_
          refine AllReadyH.cons (o := ⟨some 24, _, _, _, _, _⟩) rfl (fun K9 hK9 => ?_) AllReadyH.nil
          go_simp; go_at_call 37
          refine (HP.out x _).mono ?_
          rintro e u2 ⟨rfl, h2⟩
          have u2S : u2.cell? ⟨Bp, 0, none⟩ = some (.int .u64 x.f) ∧ u2.cell? ⟨Bp, 1, none⟩ = some (.int .u64 x.n) ∧ u2.cell? ⟨Bp, 2, none⟩ = some (.int .i64 x.s) ∧ u2.cell? ⟨w.heap.size, 0, none⟩ = some (.int .u64 f) ∧ u2.cell? ⟨w.heap.size, 1, none⟩ = some (.int .u64 n) ∧ Below V'.heap.size V' u2 := ⟨ecell h2 u1c0, ecell h2 u1c1, ecell h2 u1c2, ecell h2 u1c3, ecell h2 u1c4, bt u1b h2⟩
          obtain ⟨u2c0, u2c1, u2c2, u2c3, u2c4, u2b⟩ := u2S
          have u2T := u1T0.below h2
          refine hK9.out _ _ ?_ (fun hHeld => ?_)
          · exact ⟨u2c0, u2c1, u2c2, u2c3, u2c4, u2b⟩
          clear hK9 K9
          try simp only [Act.put, List.setIfInBounds_toArray, List.set_cons_zero, List.set_cons_succ]
          refine wpAnyH_ready (rs := [3]) (by kernel_rfl) (by simp) ?_
          refine AllReadyH.cons (o := ⟨some 26, _, _, _, _, _⟩) rfl (fun K9 hK9 => ?_) AllReadyH.nil
          go_simp; go_at_call 36
          refine (HC9.out _).mono ?_
          rintro e u3 ⟨rfl, h3⟩
          have u3S : u3.cell? ⟨Bp, 0, none⟩ = some (.int .u64 x.f) ∧ u3.cell? ⟨Bp, 1, none⟩ = some (.int .u64 x.n) ∧ u3.cell? ⟨Bp, 2, none⟩ = some (.int .i64 x.s) ∧ u3.cell? ⟨w.heap.size, 0, none⟩ = some (.int .u64 f) ∧ u3.cell? ⟨w.heap.size, 1, none⟩ = some (.int .u64 n) ∧ Below V'.heap.size V' u3 := ⟨ecell h3 u2c0, ecell h3 u2c1, ecell h3 u2c2, ecell h3 u2c3, ecell h3 u2c4, bt u2b h3⟩
          obtain ⟨u3c0, u3c1, u3c2, u3c3, u3c4, u3b⟩ := u3S
          have u3T := u2T.below h3
          refine hK9.out _ _ ?_ (fun hHeld => ?_)
          · exact ⟨u3c0, u3c1, u3c2, u3c3, u3c4, u3b⟩
          clear hK9 K9
          try simp only [Act.put, List.setIfInBounds_toArray, List.set_cons_zero, List.set_cons_succ]
          refine wpAnyH_take (i := 4) (oi := ⟨some 22, _, _, _, _, _⟩) (v := ?_) rfl (by kernel_rfl) (by kernel_rfl) (by kernel_rfl) (fun _ _ _ h => h) (Or.inl ⟨by rfl, ?_⟩) (by assumption) ?_
          rotate_left
          · (intro w9 hSw; (try dsimp only at hSw); go_simp; try with_reducible rfl)
          try simp only [Act.put, List.setIfInBounds_toArray, List.set_cons_zero, List.set_cons_succ]
          refine wpAnyH_take (i := 5) (oi := ⟨some 27, _, _, _, _, _⟩) (v := ?_) rfl (by kernel_rfl) (by kernel_rfl) (by kernel_rfl) (fun _ _ _ h => h) (Or.inl ⟨by rfl, ?_⟩) (by assumption) ?_
          rotate_left
          · (intro w9 hSw; (try dsimp only at hSw); go_simp; try with_reducible rfl)
          try simp only [Act.put, List.setIfInBounds_toArray, List.set_cons_zero, List.set_cons_succ]
          refine wpAnyH_take (i := 6) (oi := ⟨some 28, _, _, _, _, _⟩) (v := ?_) rfl (by kernel_rfl) (by kernel_rfl) (by kernel_rfl) (fun _ _ _ h => h) (Or.inl ⟨by rfl, ?_⟩) (by assumption) ?_
          rotate_left
          · (intro w9 hSw; (try dsimp only at hSw); go_simp; try with_reducible rfl)
          try simp only [Act.put, List.setIfInBounds_toArray, List.set_cons_zero, List.set_cons_succ]
          refine wpAnyH_ready (rs := [8]) (by kernel_rfl) (by simp) ?_
          refine AllReadyH.cons (o := ⟨none, _, _, _, _, _⟩) rfl (fun K9 hK9 => ?_) AllReadyH.nil
          have t90 : u3.cell? ⟨t9, 0, none⟩ = some (.int .u64 0) := u3T.cell 0; have t91 : u3.cell? ⟨t9, 1, none⟩ = some (.int .u64 0) := u3T.cell 1; have t92 : u3.frozen? ⟨t9, 0, none⟩ = false := u3T.frozen 0; have t93 : u3.frozen? ⟨t9, 1, none⟩ = false := u3T.frozen 1; go_simp
          have hst : Blk ((u3.setCell ⟨t9, 0, none⟩ (.int .u64 cf)).setCell ⟨t9, 1, none⟩ (.int .u64 cn)) t9 37 #[.int .u64 cf, .int .u64 cn] := (u3T.set_ 0 _).set_ 1 _
          have hsb : Below V'.heap.size V' ((u3.setCell ⟨t9, 0, none⟩ (.int .u64 cf)).setCell ⟨t9, 1, none⟩ (.int .u64 cn)) := (u3b.setCell (p := ⟨t9, 0, none⟩) ht9 _).setCell (p := ⟨t9, 1, none⟩) ht9 _
          generalize ((u3.setCell ⟨t9, 0, none⟩ (.int .u64 cf)).setCell ⟨t9, 1, none⟩ (.int .u64 cn)) = uF at hst hsb ⊢
          refine hK9.out _ _ ?_ (fun hHeld => ?_)
          · exact ⟨ecell hsb a0, ecell hsb a1, ecell hsb a2, ecell hsb a3, ecell hsb a4, hsb⟩
          clear hK9 K9
          try simp only [Act.put]
          refine wpAnyH_take (i := 9) (oi := ⟨some 10, _, _, _, _, _⟩) (v := ?_) rfl (by kernel_rfl) (by kernel_rfl) (by kernel_rfl) (fun _ _ _ h => h) (Or.inl ⟨by rfl, ?_⟩) (by assumption) ?_
          rotate_left
          · (intro w9 hSw; (try dsimp only at hSw); go_simp; try with_reducible rfl)
          try simp only [Act.put, List.setIfInBounds_toArray, List.set_cons_zero, List.set_cons_succ]
          refine wpAnyH_done (by kernel_rfl) ?_ _
          refine onlyW_normal ?_
          gi_wp2_with fail
          gi_meet
          case rel => exact ⟨t9, rfl, rfl, Lib.hid hsb, Lib.hid hst⟩
      case rest =>
        obtain ⟨t9, rfl, rfl, HF, HT⟩ := hcut
        clear a0 a1 a2 a3 a4 ab
        rename World => uF
        have HT9 : Hid (t9 ≠ w2.heap.size) := Lib.hid (fun e => by rw [e] at HT; exact absurd (blk_one HT.out (HV.out.1.below HF.out)).1 (by decide))
        have p7 : uF.drew.cell? ⟨w2.heap.size, 0, none⟩ = some v := (HV.out.1.below HF.out).cell 0
        have p90 : uF.drew.cell? ⟨t9, 0, none⟩ = some (.int .u64 cf) := HT.out.cell 0
        have p91 : uF.drew.cell? ⟨t9, 1, none⟩ = some (.int .u64 cn) := HT.out.cell 1
        have pb2 : uF.drew.cell? ⟨Bp, 2, none⟩ = some (.int .i64 x.s) := (HBP.out.below HF.out).cell 2
        gi_wp2_with fail
        refine region_round_held (S := fun Wq => Wq.cell? ⟨t9, 0, none⟩ = some (.int .u64 cf) ∧ Wq.cell? ⟨t9, 1, none⟩ = some (.int .u64 cn) ∧ Wq.cell? ⟨Bp, 2, none⟩ = some (.int .i64 x.s)) (by kernel_rfl) (by kernel_rfl) ⟨p90, p91, pb2⟩ (fun hHeld => ?_)
        refine wpAnyH_take (i := 1) (oi := ⟨some 32, _, _, _, _, _⟩) (v := .agg #[.int .u64 cf, .int .u64 cn]) rfl (by kernel_rfl) (by kernel_rfl) (by kernel_rfl) (fun _ _ _ h => h) (Or.inl ⟨by rfl, ?_⟩) (by assumption) ?_
        · (intro w9 hSw; obtain ⟨q0, q1, q2⟩ := hSw; (try dsimp only at hSw); go_simp; try with_reducible rfl)
        try simp only [Act.put, List.setIfInBounds_toArray, List.set_cons_zero, List.set_cons_succ]
        refine wpAnyH_take (i := 2) (oi := ⟨some 33, _, _, _, _, _⟩) (v := ?_) rfl (by kernel_rfl) (by kernel_rfl) (by kernel_rfl) (fun _ _ _ h => h) (Or.inl ⟨by rfl, ?_⟩) (by assumption) ?_
        rotate_left
        · (intro w9 hSw; (try dsimp only at hSw); go_simp; try with_reducible rfl)
        try simp only [Act.put, List.setIfInBounds_toArray, List.set_cons_zero, List.set_cons_succ]
        refine wpAnyH_take (i := 3) (oi := ⟨some 34, _, _, _, _, _⟩) (v := .int .i64 x.s) rfl (by kernel_rfl) (by kernel_rfl) (by kernel_rfl) (fun _ _ _ h => h) (Or.inl ⟨by rfl, ?_⟩) (by assumption) ?_
        · (intro w9 hSw; obtain ⟨q0, q1, q2⟩ := hSw; (try dsimp only at hSw); go_simp; try with_reducible rfl)
        try simp only [Act.put, List.setIfInBounds_toArray, List.set_cons_zero, List.set_cons_succ]
        refine wpAnyH_ready (rs := [0, 4]) (by kernel_rfl) (by simp) ?_
        refine AllReadyH.cons (o := ⟨some 31, _, _, _, _, _⟩) rfl (fun K9 hK9 => ?_) ?_
        · skip
          have c7 := p7; go_simp
          clear c7
          refine hK9.out _ _ ?_ (fun hHeld => ?_)
          · exact ⟨p90, p91, pb2⟩
          clear hK9 K9
          try simp only [Act.put, List.setIfInBounds_toArray, List.set_cons_zero, List.set_cons_succ]
          refine wpAnyH_ready (rs := [4]) (by kernel_rfl) (by simp) ?_
          refine AllReadyH.cons (o := ⟨some 35, _, _, _, _, _⟩) rfl (fun K9 hK9 => ?_) AllReadyH.nil
          go_simp; go_at_call 38
          refine (HRN.out cf cn x.s _).mono ?_
          rintro e u8 ⟨rfl, hb8⟩
          have k80 := ecell hb8 p90
          have k81 := ecell hb8 p91
          have k82 := ecell hb8 pb2
          have k87 := ecell hb8 p7
          have hU8 : Below V'.heap.size V' u8 := bt (HF.out.drew) hb8
          have hT8 := HT.out.drew.below hb8
          refine hK9.out _ _ ?_ (fun hHeld => ?_)
          · exact ⟨k80, k81, k82⟩
          clear hK9 K9
          try simp only [Act.put, List.setIfInBounds_toArray, List.set_cons_zero, List.set_cons_succ]
          refine wpAnyH_ready (rs := [5]) (by kernel_rfl) (by simp) ?_
          refine AllReadyH.cons (o := ⟨some 36, _, _, _, _, _⟩) rfl (fun K9 hK9 => ?_) AllReadyH.nil
          go_simp
          have hbu : Below u8.heap.size u8 (u8.alloc (.cells #[.int .u64 cf, .int .u64 cn, .int .i64 x.s] 47)) := ba (Below.refl _ _) _
          have k90 := ecell hbu k80
          have k91 := ecell hbu k81
          have k92 := ecell hbu k82
          have k97 := ecell hbu k87
          have HU := Lib.hid (bt hU8 hbu)
          have HTU := Lib.hid (hT8.below hbu)
          have HNW : Hid (∀ (j : Nat) (u : Value), ([.int .u64 cf, .int .u64 cn, .int .i64 x.s] : List Value)[j]? = some u → (u8.alloc (.cells #[.int .u64 cf, .int .u64 cn, .int .i64 x.s] 47)).cell? ((⟨u8.heap.size, 0, none⟩ : Addr).add j) = some u) := Lib.hid (news_new u8 [.int .u64 cf, .int .u64 cn, .int .i64 x.s] 47)
          generalize hUU : (u8.alloc (.cells #[.int .u64 cf, .int .u64 cn, .int .i64 x.s] 47)) = U at hbu k90 k91 k92 k97 HU HTU HNW ⊢
          clear hUU
          refine hK9.out _ _ ?_ (fun hHeld => ?_)
          · exact ⟨k90, k91, k92⟩
          clear hK9 K9
          try simp only [Act.put, List.setIfInBounds_toArray, List.set_cons_zero, List.set_cons_succ]
          refine wpAnyH_ready (rs := [6]) (by kernel_rfl) (by simp) ?_
          refine AllReadyH.cons (o := ⟨some 37, _, _, _, _, _⟩) rfl (fun K9 hK9 => ?_) AllReadyH.nil
          refine step_append_lies _ (by rfl) _ _ _ (by rfl) w2.heap.size 47 i0 (.agg #[.int .u64 0, .int .u64 0, .int .i64 0]) 3 24 Try.underlying22 hi0 hz0 hz1 hz2 rfl (by omega) v (ecut f n pre).length (rcells (ecut f n pre)) (by rfl) (own_later HV.out.2.2.1 HU.out) ⟨u8.heap.size, 0, none⟩ 1 1 [.int .u64 cf, .int .u64 cn, .int .i64 x.s] (by rfl) rfl HNW.out (by simp [Value.oneCell']) (by omega) (by unfold maxLen; have := HLN.out; omega) (by have := HLN.out; omega) (by have := HU.out.size; have := HV.out.1.lt; omega) _ rfl ?_
          intro g6 d6 w6 hown6 hgr6 hat6 _
          have HM6 := Lib.hid (EAI.more (x := ⟨cf, cn, x.s⟩) HBY.out (Nat.le_refl _) (Nat.le_of_lt hz8) HV.out.1 HV.out.2.2.1 HV.out.2.2.2.1 HV.out.2.2.2.2.1 HV.out.2.2.2.2.2.1 HU.out hown6 hgr6 (hat6.elim (fun h => .inl h.symm) (fun h => .inr (by rw [h]; rfl))))
          have HT6 := Lib.hid (HTU.out.grown hgr6 (fun e => vown_ne (own_later HV.out.2.2.1 HU.out) HTU.out (by decide) e.symm))
          have HB6 := Lib.hid ((HBP.out.below HU.out).grown hgr6 (fun e => HV.out.2.1 e.symm))
          have HS6 := Lib.hid ((HI.out.2.1.below HU.out).grown hgr6 (fun e => vown_ne (own_later HV.out.2.2.1 HU.out) (HI.out.2.1.below HU.out) (by decide) e.symm))
          have k60 : w6.cell? ⟨t9, 0, none⟩ = some (.int .u64 cf) ∧ w6.cell? ⟨t9, 1, none⟩ = some (.int .u64 cn) ∧ w6.cell? ⟨Bp, 2, none⟩ = some (.int .i64 x.s) := ⟨HT6.out.cell 0, HT6.out.cell 1, HB6.out.cell 2⟩
          have c67 : w6.cell? ⟨w2.heap.size, 0, none⟩ = some v := HM6.out.1.1
          have f67 : w6.frozen? ⟨w2.heap.size, 0, none⟩ = false := HM6.out.1.2
          clear hown6 hgr6 hat6
          refine hK9.out _ _ ?_ (fun hHeld => ?_)
          · exact k60
          clear hK9 K9
          try simp only [Act.put, List.setIfInBounds_toArray, List.set_cons_zero, List.set_cons_succ]
          refine wpAnyH_ready (rs := [7]) (by kernel_rfl) (by simp) ?_
          refine AllReadyH.cons (o := ⟨none, _, _, _, _, _⟩) rfl (fun K9 hK9 => ?_) AllReadyH.nil
          go_simp
          refine hK9.out _ _ ?_ (fun hHeld => ?_)
          · exact ⟨((HT6.out.far (p := ⟨w2.heap.size, 0, none⟩) HT9.out _).cell 0), ((HT6.out.far (p := ⟨w2.heap.size, 0, none⟩) HT9.out _).cell 1), ((HB6.out.far (p := ⟨w2.heap.size, 0, none⟩) HV.out.2.2.2.2.2.2 _).cell 2)⟩
          clear hK9 K9
          try simp only [Act.put]
          refine wpAnyH_done (by kernel_rfl) ?_ _
          refine onlyW_normal ?_
          gi_wp2_with fail
          exact ⟨⟨by rw [HQ9.out]; exact HM6.out.2.1, HS6.out.far (p := ⟨w2.heap.size, 0, none⟩) (Nat.ne_of_lt hz8) _, HI.out.2.2⟩, HM6.out.2.2⟩
        refine AllReadyH.cons (o := ⟨some 35, _, _, _, _, _⟩) rfl (fun K9 hK9 => ?_) AllReadyH.nil
        · skip
          go_simp; go_at_call 38
          refine (HRN.out cf cn x.s _).mono ?_
          rintro e u8 ⟨rfl, hb8⟩
          have k80 := ecell hb8 p90
          have k81 := ecell hb8 p91
          have k82 := ecell hb8 pb2
          have k87 := ecell hb8 p7
          have hU8 : Below V'.heap.size V' u8 := bt (HF.out.drew) hb8
          have hT8 := HT.out.drew.below hb8
          refine hK9.out _ _ ?_ (fun hHeld => ?_)
          · exact ⟨k80, k81, k82⟩
          clear hK9 K9
          try simp only [Act.put, List.setIfInBounds_toArray, List.set_cons_zero, List.set_cons_succ]
          refine wpAnyH_ready (rs := [0, 5]) (by kernel_rfl) (by simp) ?_
          refine AllReadyH.cons (o := ⟨some 31, _, _, _, _, _⟩) rfl (fun K9 hK9 => ?_) ?_
          · skip
            have c7 := k87; go_simp
            clear c7
            refine hK9.out _ _ ?_ (fun hHeld => ?_)
            · exact ⟨k80, k81, k82⟩
            clear hK9 K9
            try simp only [Act.put, List.setIfInBounds_toArray, List.set_cons_zero, List.set_cons_succ]
            refine wpAnyH_ready (rs := [5]) (by kernel_rfl) (by simp) ?_
            refine AllReadyH.cons (o := ⟨some 36, _, _, _, _, _⟩) rfl (fun K9 hK9 => ?_) AllReadyH.nil
            go_simp
            have hbu : Below u8.heap.size u8 (u8.alloc (.cells #[.int .u64 cf, .int .u64 cn, .int .i64 x.s] 47)) := ba (Below.refl _ _) _
            have k90 := ecell hbu k80
            have k91 := ecell hbu k81
            have k92 := ecell hbu k82
            have k97 := ecell hbu k87
            have HU := Lib.hid (bt hU8 hbu)
            have HTU := Lib.hid (hT8.below hbu)
            have HNW : Hid (∀ (j : Nat) (u : Value), ([.int .u64 cf, .int .u64 cn, .int .i64 x.s] : List Value)[j]? = some u → (u8.alloc (.cells #[.int .u64 cf, .int .u64 cn, .int .i64 x.s] 47)).cell? ((⟨u8.heap.size, 0, none⟩ : Addr).add j) = some u) := Lib.hid (news_new u8 [.int .u64 cf, .int .u64 cn, .int .i64 x.s] 47)
            generalize hUU : (u8.alloc (.cells #[.int .u64 cf, .int .u64 cn, .int .i64 x.s] 47)) = U at hbu k90 k91 k92 k97 HU HTU HNW ⊢
            clear hUU
            refine hK9.out _ _ ?_ (fun hHeld => ?_)
            · exact ⟨k90, k91, k92⟩
            clear hK9 K9
            try simp only [Act.put, List.setIfInBounds_toArray, List.set_cons_zero, List.set_cons_succ]
            refine wpAnyH_ready (rs := [6]) (by kernel_rfl) (by simp) ?_
            refine AllReadyH.cons (o := ⟨some 37, _, _, _, _, _⟩) rfl (fun K9 hK9 => ?_) AllReadyH.nil
            refine step_append_lies _ (by rfl) _ _ _ (by rfl) w2.heap.size 47 i0 (.agg #[.int .u64 0, .int .u64 0, .int .i64 0]) 3 24 Try.underlying22 hi0 hz0 hz1 hz2 rfl (by omega) v (ecut f n pre).length (rcells (ecut f n pre)) (by rfl) (own_later HV.out.2.2.1 HU.out) ⟨u8.heap.size, 0, none⟩ 1 1 [.int .u64 cf, .int .u64 cn, .int .i64 x.s] (by rfl) rfl HNW.out (by simp [Value.oneCell']) (by omega) (by unfold maxLen; have := HLN.out; omega) (by have := HLN.out; omega) (by have := HU.out.size; have := HV.out.1.lt; omega) _ rfl ?_
            intro g6 d6 w6 hown6 hgr6 hat6 _
            have HM6 := Lib.hid (EAI.more (x := ⟨cf, cn, x.s⟩) HBY.out (Nat.le_refl _) (Nat.le_of_lt hz8) HV.out.1 HV.out.2.2.1 HV.out.2.2.2.1 HV.out.2.2.2.2.1 HV.out.2.2.2.2.2.1 HU.out hown6 hgr6 (hat6.elim (fun h => .inl h.symm) (fun h => .inr (by rw [h]; rfl))))
            have HT6 := Lib.hid (HTU.out.grown hgr6 (fun e => vown_ne (own_later HV.out.2.2.1 HU.out) HTU.out (by decide) e.symm))
            have HB6 := Lib.hid ((HBP.out.below HU.out).grown hgr6 (fun e => HV.out.2.1 e.symm))
            have HS6 := Lib.hid ((HI.out.2.1.below HU.out).grown hgr6 (fun e => vown_ne (own_later HV.out.2.2.1 HU.out) (HI.out.2.1.below HU.out) (by decide) e.symm))
            have k60 : w6.cell? ⟨t9, 0, none⟩ = some (.int .u64 cf) ∧ w6.cell? ⟨t9, 1, none⟩ = some (.int .u64 cn) ∧ w6.cell? ⟨Bp, 2, none⟩ = some (.int .i64 x.s) := ⟨HT6.out.cell 0, HT6.out.cell 1, HB6.out.cell 2⟩
            have c67 : w6.cell? ⟨w2.heap.size, 0, none⟩ = some v := HM6.out.1.1
            have f67 : w6.frozen? ⟨w2.heap.size, 0, none⟩ = false := HM6.out.1.2
            clear hown6 hgr6 hat6
            refine hK9.out _ _ ?_ (fun hHeld => ?_)
            · exact k60
            clear hK9 K9
            try simp only [Act.put, List.setIfInBounds_toArray, List.set_cons_zero, List.set_cons_succ]
            refine wpAnyH_ready (rs := [7]) (by kernel_rfl) (by simp) ?_
            refine AllReadyH.cons (o := ⟨none, _, _, _, _, _⟩) rfl (fun K9 hK9 => ?_) AllReadyH.nil
            go_simp
            refine hK9.out _ _ ?_ (fun hHeld => ?_)
            · exact ⟨((HT6.out.far (p := ⟨w2.heap.size, 0, none⟩) HT9.out _).cell 0), ((HT6.out.far (p := ⟨w2.heap.size, 0, none⟩) HT9.out _).cell 1), ((HB6.out.far (p := ⟨w2.heap.size, 0, none⟩) HV.out.2.2.2.2.2.2 _).cell 2)⟩
            clear hK9 K9
            try simp only [Act.put]
            refine wpAnyH_done (by kernel_rfl) ?_ _
            refine onlyW_normal ?_
            gi_wp2_with fail
            exact ⟨⟨by rw [HQ9.out]; exact HM6.out.2.1, HS6.out.far (p := ⟨w2.heap.size, 0, none⟩) (Nat.ne_of_lt hz8) _, HI.out.2.2⟩, HM6.out.2.2⟩
          refine AllReadyH.cons (o := ⟨some 36, _, _, _, _, _⟩) rfl (fun K9 hK9 => ?_) AllReadyH.nil
          · skip
            go_simp
            have hbu : Below u8.heap.size u8 (u8.alloc (.cells #[.int .u64 cf, .int .u64 cn, .int .i64 x.s] 47)) := ba (Below.refl _ _) _
            have k90 := ecell hbu k80
            have k91 := ecell hbu k81
            have k92 := ecell hbu k82
            have k97 := ecell hbu k87
            have HU := Lib.hid (bt hU8 hbu)
            have HTU := Lib.hid (hT8.below hbu)
            have HNW : Hid (∀ (j : Nat) (u : Value), ([.int .u64 cf, .int .u64 cn, .int .i64 x.s] : List Value)[j]? = some u → (u8.alloc (.cells #[.int .u64 cf, .int .u64 cn, .int .i64 x.s] 47)).cell? ((⟨u8.heap.size, 0, none⟩ : Addr).add j) = some u) := Lib.hid (news_new u8 [.int .u64 cf, .int .u64 cn, .int .i64 x.s] 47)
            generalize hUU : (u8.alloc (.cells #[.int .u64 cf, .int .u64 cn, .int .i64 x.s] 47)) = U at hbu k90 k91 k92 k97 HU HTU HNW ⊢
            clear hUU
            refine hK9.out _ _ ?_ (fun hHeld => ?_)
            · exact ⟨k90, k91, k92⟩
            clear hK9 K9
            try simp only [Act.put, List.setIfInBounds_toArray, List.set_cons_zero, List.set_cons_succ]
            refine wpAnyH_ready (rs := [0]) (by kernel_rfl) (by simp) ?_
            refine AllReadyH.cons (o := ⟨some 31, _, _, _, _, _⟩) rfl (fun K9 hK9 => ?_) AllReadyH.nil
            have c7 := k97; go_simp
            clear c7
            refine hK9.out _ _ ?_ (fun hHeld => ?_)
            · exact ⟨k90, k91, k92⟩
            clear hK9 K9
            try simp only [Act.put, List.setIfInBounds_toArray, List.set_cons_zero, List.set_cons_succ]
            refine wpAnyH_ready (rs := [6]) (by kernel_rfl) (by simp) ?_
            refine AllReadyH.cons (o := ⟨some 37, _, _, _, _, _⟩) rfl (fun K9 hK9 => ?_) AllReadyH.nil
            refine step_append_lies _ (by rfl) _ _ _ (by rfl) w2.heap.size 47 i0 (.agg #[.int .u64 0, .int .u64 0, .int .i64 0]) 3 24 Try.underlying22 hi0 hz0 hz1 hz2 rfl (by omega) v (ecut f n pre).length (rcells (ecut f n pre)) (by rfl) (own_later HV.out.2.2.1 HU.out) ⟨u8.heap.size, 0, none⟩ 1 1 [.int .u64 cf, .int .u64 cn, .int .i64 x.s] (by rfl) rfl HNW.out (by simp [Value.oneCell']) (by omega) (by unfold maxLen; have := HLN.out; omega) (by have := HLN.out; omega) (by have := HU.out.size; have := HV.out.1.lt; omega) _ rfl ?_
            intro g6 d6 w6 hown6 hgr6 hat6 _
            have HM6 := Lib.hid (EAI.more (x := ⟨cf, cn, x.s⟩) HBY.out (Nat.le_refl _) (Nat.le_of_lt hz8) HV.out.1 HV.out.2.2.1 HV.out.2.2.2.1 HV.out.2.2.2.2.1 HV.out.2.2.2.2.2.1 HU.out hown6 hgr6 (hat6.elim (fun h => .inl h.symm) (fun h => .inr (by rw [h]; rfl))))
            have HT6 := Lib.hid (HTU.out.grown hgr6 (fun e => vown_ne (own_later HV.out.2.2.1 HU.out) HTU.out (by decide) e.symm))
            have HB6 := Lib.hid ((HBP.out.below HU.out).grown hgr6 (fun e => HV.out.2.1 e.symm))
            have HS6 := Lib.hid ((HI.out.2.1.below HU.out).grown hgr6 (fun e => vown_ne (own_later HV.out.2.2.1 HU.out) (HI.out.2.1.below HU.out) (by decide) e.symm))
            have k60 : w6.cell? ⟨t9, 0, none⟩ = some (.int .u64 cf) ∧ w6.cell? ⟨t9, 1, none⟩ = some (.int .u64 cn) ∧ w6.cell? ⟨Bp, 2, none⟩ = some (.int .i64 x.s) := ⟨HT6.out.cell 0, HT6.out.cell 1, HB6.out.cell 2⟩
            have c67 : w6.cell? ⟨w2.heap.size, 0, none⟩ = some v := HM6.out.1.1
            have f67 : w6.frozen? ⟨w2.heap.size, 0, none⟩ = false := HM6.out.1.2
            clear hown6 hgr6 hat6
            refine hK9.out _ _ ?_ (fun hHeld => ?_)
            · exact k60
            clear hK9 K9
            try simp only [Act.put, List.setIfInBounds_toArray, List.set_cons_zero, List.set_cons_succ]
            refine wpAnyH_ready (rs := [7]) (by kernel_rfl) (by simp) ?_
            refine AllReadyH.cons (o := ⟨none, _, _, _, _, _⟩) rfl (fun K9 hK9 => ?_) AllReadyH.nil
            go_simp
            refine hK9.out _ _ ?_ (fun hHeld => ?_)
            · exact ⟨((HT6.out.far (p := ⟨w2.heap.size, 0, none⟩) HT9.out _).cell 0), ((HT6.out.far (p := ⟨w2.heap.size, 0, none⟩) HT9.out _).cell 1), ((HB6.out.far (p := ⟨w2.heap.size, 0, none⟩) HV.out.2.2.2.2.2.2 _).cell 2)⟩
            clear hK9 K9
            try simp only [Act.put]
            refine wpAnyH_done (by kernel_rfl) ?_ _
            refine onlyW_normal ?_
            gi_wp2_with fail
            exact ⟨⟨by rw [HQ9.out]; exact HM6.out.2.1, HS6.out.far (p := ⟨w2.heap.size, 0, none⟩) (Nat.ne_of_lt hz8) _, HI.out.2.2⟩, HM6.out.2.2⟩
    · have HC9 := Lib.hid (fun W => cut_none x.f x.n f n W hx9.1 hx9.2.1 (by omega) hf9.1 hf9.2.1 (by omega) (by omega))
      have HQ9 : Hid (ecut f n (pre ++ [x]) = ecut f n pre) := Lib.hid (by unfold ecut; rw [List.filterMap_append, List.filterMap_cons]; simp only [ecut1, if_neg hm]; simp)
      clear hm hx9 hf9
      gi_wp2_with fail
      gi_cut [9, 10] from 22 (fun s9 s10 wx => ∃ t9, s9 = .pointer (some ⟨t9, 0, none⟩) ∧ s10 = .int .i64 3 ∧ Hid (Below V'.heap.size V' wx) ∧ Hid (Blk wx t9 37 #[.int .u64 0, .int .u64 0]))
      case first =>
        refine region_round_held (S := fun Wq => Wq.cell? ⟨Bp, 0, none⟩ = some (.int .u64 x.f) ∧ Wq.cell? ⟨Bp, 1, none⟩ = some (.int .u64 x.n) ∧ Wq.cell? ⟨Bp, 2, none⟩ = some (.int .i64 x.s) ∧ Wq.cell? ⟨w.heap.size, 0, none⟩ = some (.int .u64 f) ∧ Wq.cell? ⟨w.heap.size, 1, none⟩ = some (.int .u64 n) ∧ Below V'.heap.size V' Wq) (by kernel_rfl) (by kernel_rfl) ⟨a0, a1, a2, a3, a4, ab⟩ (fun hHeld => ?_)
        refine wpAnyH_take (i := 0) (oi := ⟨some 23, _, _, _, _, _⟩) (v := .agg #[.int .u64 x.f, .int .u64 x.n, .int .i64 x.s]) rfl (by kernel_rfl) (by kernel_rfl) (by kernel_rfl) (fun _ _ _ h => h) (Or.inl ⟨by rfl, ?_⟩) (by assumption) ?_
        · (intro w9 hSw; obtain ⟨q0, q1, q2, q3, q4, _⟩ := hSw; (try dsimp only at hSw); go_simp; try with_reducible rfl)
        try simp only [Act.put, List.setIfInBounds_toArray, List.set_cons_zero, List.set_cons_succ]
        refine wpAnyH_take (i := 2) (oi := ⟨some 25, _, _, _, _, _⟩) (v := .agg #[.int .u64 f, .int .u64 n]) rfl (by kernel_rfl) (by kernel_rfl) (by kernel_rfl) (fun _ _ _ h => h) (Or.inl ⟨by rfl, ?_⟩) (by assumption) ?_
        · (intro w9 hSw; obtain ⟨q0, q1, q2, q3, q4, _⟩ := hSw; (try dsimp only at hSw); go_simp; try with_reducible rfl)
        try simp only [Act.put, List.setIfInBounds_toArray, List.set_cons_zero, List.set_cons_succ]
        refine wpAnyH_ready (rs := [1, 7]) (by kernel_rfl) (by simp) ?_
        refine AllReadyH.cons (o := ⟨some 24, _, _, _, _, _⟩) rfl (fun K9 hK9 => ?_) ?_
        · skip
          go_simp; go_at_call 37
          refine (HP.out x _).mono ?_
          rintro e u1 ⟨rfl, h1⟩
          have u1S : u1.cell? ⟨Bp, 0, none⟩ = some (.int .u64 x.f) ∧ u1.cell? ⟨Bp, 1, none⟩ = some (.int .u64 x.n) ∧ u1.cell? ⟨Bp, 2, none⟩ = some (.int .i64 x.s) ∧ u1.cell? ⟨w.heap.size, 0, none⟩ = some (.int .u64 f) ∧ u1.cell? ⟨w.heap.size, 1, none⟩ = some (.int .u64 n) ∧ Below V'.heap.size V' u1 := ⟨ecell h1 a0, ecell h1 a1, ecell h1 a2, ecell h1 a3, ecell h1 a4, bt ab h1⟩
          obtain ⟨u1c0, u1c1, u1c2, u1c3, u1c4, u1b⟩ := u1S
          refine hK9.out _ _ ?_ (fun hHeld => ?_)
          · exact ⟨u1c0, u1c1, u1c2, u1c3, u1c4, u1b⟩
          clear hK9 K9
          try simp only [Act.put, List.setIfInBounds_toArray, List.set_cons_zero, List.set_cons_succ]
          refine wpAnyH_ready (rs := [3, 7]) (by kernel_rfl) (by simp) ?_
          refine AllReadyH.cons (o := ⟨some 26, _, _, _, _, _⟩) rfl (fun K9 hK9 => ?_) ?_
          · skip
            go_simp; go_at_call 36
            refine (HC9.out _).mono ?_
            rintro e u2 ⟨rfl, h2⟩
            have u2S : u2.cell? ⟨Bp, 0, none⟩ = some (.int .u64 x.f) ∧ u2.cell? ⟨Bp, 1, none⟩ = some (.int .u64 x.n) ∧ u2.cell? ⟨Bp, 2, none⟩ = some (.int .i64 x.s) ∧ u2.cell? ⟨w.heap.size, 0, none⟩ = some (.int .u64 f) ∧ u2.cell? ⟨w.heap.size, 1, none⟩ = some (.int .u64 n) ∧ Below V'.heap.size V' u2 := ⟨ecell h2 u1c0, ecell h2 u1c1, ecell h2 u1c2, ecell h2 u1c3, ecell h2 u1c4, bt u1b h2⟩
            obtain ⟨u2c0, u2c1, u2c2, u2c3, u2c4, u2b⟩ := u2S
            refine hK9.out _ _ ?_ (fun hHeld => ?_)
            · exact ⟨u2c0, u2c1, u2c2, u2c3, u2c4, u2b⟩
            clear hK9 K9
            try simp only [Act.put, List.setIfInBounds_toArray, List.set_cons_zero, List.set_cons_succ]
            refine wpAnyH_take (i := 4) (oi := ⟨some 22, _, _, _, _, _⟩) (v := ?_) rfl (by kernel_rfl) (by kernel_rfl) (by kernel_rfl) (fun _ _ _ h => h) (Or.inl ⟨by rfl, ?_⟩) (by assumption) ?_
            rotate_left
            · (intro w9 hSw; (try dsimp only at hSw); go_simp; try with_reducible rfl)
            try simp only [Act.put, List.setIfInBounds_toArray, List.set_cons_zero, List.set_cons_succ]
            refine wpAnyH_take (i := 5) (oi := ⟨some 27, _, _, _, _, _⟩) (v := ?_) rfl (by kernel_rfl) (by kernel_rfl) (by kernel_rfl) (fun _ _ _ h => h) (Or.inl ⟨by rfl, ?_⟩) (by assumption) ?_
            rotate_left
            · (intro w9 hSw; (try dsimp only at hSw); go_simp; try with_reducible rfl)
            try simp only [Act.put, List.setIfInBounds_toArray, List.set_cons_zero, List.set_cons_succ]
            refine wpAnyH_take (i := 6) (oi := ⟨some 28, _, _, _, _, _⟩) (v := ?_) rfl (by kernel_rfl) (by kernel_rfl) (by kernel_rfl) (fun _ _ _ h => h) (Or.inl ⟨by rfl, ?_⟩) (by assumption) ?_
            rotate_left
            · (intro w9 hSw; (try dsimp only at hSw); go_simp; try with_reducible rfl)
            try simp only [Act.put, List.setIfInBounds_toArray, List.set_cons_zero, List.set_cons_succ]
            refine wpAnyH_ready (rs := [7]) (by kernel_rfl) (by simp) ?_
            refine AllReadyH.cons (o := ⟨some 9, _, _, _, _, _⟩) rfl (fun K9 hK9 => ?_) AllReadyH.nil
            go_simp
            have h3 : Below u2.heap.size u2 (u2.alloc (.cells #[.int .u64 0, .int .u64 0] 37)) := ba (Below.refl _ _) _
            have u3T0 : Blk (u2.alloc (.cells #[.int .u64 0, .int .u64 0] 37)) u2.heap.size 37 #[.int .u64 0, .int .u64 0] := Blk.new _ _ _
            generalize (u2.alloc (.cells #[.int .u64 0, .int .u64 0] 37)) = u3 at h3 u3T0 ⊢
            generalize hq9 : u2.heap.size = t9 at u3T0 ⊢
            have ht9 : V'.heap.size ≤ t9 := (by rw [← hq9]; exact u2b.size)
            have u3S : u3.cell? ⟨Bp, 0, none⟩ = some (.int .u64 x.f) ∧ u3.cell? ⟨Bp, 1, none⟩ = some (.int .u64 x.n) ∧ u3.cell? ⟨Bp, 2, none⟩ = some (.int .i64 x.s) ∧ u3.cell? ⟨w.heap.size, 0, none⟩ = some (.int .u64 f) ∧ u3.cell? ⟨w.heap.size, 1, none⟩ = some (.int .u64 n) ∧ Below V'.heap.size V' u3 := ⟨ecell h3 u2c0, ecell h3 u2c1, ecell h3 u2c2, ecell h3 u2c3, ecell h3 u2c4, bt u2b h3⟩
            obtain ⟨u3c0, u3c1, u3c2, u3c3, u3c4, u3b⟩ := u3S
            refine hK9.out _ _ ?_ (fun hHeld => ?_)
            · exact ⟨u3c0, u3c1, u3c2, u3c3, u3c4, u3b⟩
            clear hK9 K9
            try simp only [Act.put, List.setIfInBounds_toArray, List.set_cons_zero, List.set_cons_succ]
            refine wpAnyH_ready (rs := [8]) (by kernel_rfl) (by simp) ?_
            refine AllReadyH.cons (o := ⟨none, _, _, _, _, _⟩) rfl (fun K9 hK9 => ?_) AllReadyH.nil
            have t90 : u3.cell? ⟨t9, 0, none⟩ = some (.int .u64 0) := u3T0.cell 0; have t91 : u3.cell? ⟨t9, 1, none⟩ = some (.int .u64 0) := u3T0.cell 1; have t92 : u3.frozen? ⟨t9, 0, none⟩ = false := u3T0.frozen 0; have t93 : u3.frozen? ⟨t9, 1, none⟩ = false := u3T0.frozen 1; go_simp
            have hst : Blk ((u3.setCell ⟨t9, 0, none⟩ (.int .u64 0)).setCell ⟨t9, 1, none⟩ (.int .u64 0)) t9 37 #[.int .u64 0, .int .u64 0] := (u3T0.set_ 0 _).set_ 1 _
            have hsb : Below V'.heap.size V' ((u3.setCell ⟨t9, 0, none⟩ (.int .u64 0)).setCell ⟨t9, 1, none⟩ (.int .u64 0)) := (u3b.setCell (p := ⟨t9, 0, none⟩) ht9 _).setCell (p := ⟨t9, 1, none⟩) ht9 _
            generalize ((u3.setCell ⟨t9, 0, none⟩ (.int .u64 0)).setCell ⟨t9, 1, none⟩ (.int .u64 0)) = uF at hst hsb ⊢
            refine hK9.out _ _ ?_ (fun hHeld => ?_)
            · exact ⟨ecell hsb a0, ecell hsb a1, ecell hsb a2, ecell hsb a3, ecell hsb a4, hsb⟩
            clear hK9 K9
            try simp only [Act.put]
            refine wpAnyH_take (i := 9) (oi := ⟨some 10, _, _, _, _, _⟩) (v := ?_) rfl (by kernel_rfl) (by kernel_rfl) (by kernel_rfl) (fun _ _ _ h => h) (Or.inl ⟨by rfl, ?_⟩) (by assumption) ?_
            rotate_left
            · (intro w9 hSw; (try dsimp only at hSw); go_simp; try with_reducible rfl)
            try simp only [Act.put, List.setIfInBounds_toArray, List.set_cons_zero, List.set_cons_succ]
            refine wpAnyH_done (by kernel_rfl) ?_ _
            refine onlyW_normal ?_
            gi_wp2_with fail
            gi_meet
            case rel => exact ⟨t9, rfl, rfl, Lib.hid hsb, Lib.hid hst⟩
          refine AllReadyH.cons (o := ⟨some 9, _, _, _, _, _⟩) rfl (fun K9 hK9 => ?_) AllReadyH.nil
          · skip
            go_simp
            have h2 : Below u1.heap.size u1 (u1.alloc (.cells #[.int .u64 0, .int .u64 0] 37)) := ba (Below.refl _ _) _
            have u2T0 : Blk (u1.alloc (.cells #[.int .u64 0, .int .u64 0] 37)) u1.heap.size 37 #[.int .u64 0, .int .u64 0] := Blk.new _ _ _
            generalize (u1.alloc (.cells #[.int .u64 0, .int .u64 0] 37)) = u2 at h2 u2T0 ⊢
            generalize hq9 : u1.heap.size = t9 at u2T0 ⊢
            have ht9 : V'.heap.size ≤ t9 := (by rw [← hq9]; exact u1b.size)
            have u2S : u2.cell? ⟨Bp, 0, none⟩ = some (.int .u64 x.f) ∧ u2.cell? ⟨Bp, 1, none⟩ = some (.int .u64 x.n) ∧ u2.cell? ⟨Bp, 2, none⟩ = some (.int .i64 x.s) ∧ u2.cell? ⟨w.heap.size, 0, none⟩ = some (.int .u64 f) ∧ u2.cell? ⟨w.heap.size, 1, none⟩ = some (.int .u64 n) ∧ Below V'.heap.size V' u2 := ⟨ecell h2 u1c0, ecell h2 u1c1, ecell h2 u1c2, ecell h2 u1c3, ecell h2 u1c4, bt u1b h2⟩
            obtain ⟨u2c0, u2c1, u2c2, u2c3, u2c4, u2b⟩ := u2S
            refine hK9.out _ _ ?_ (fun hHeld => ?_)
            · exact ⟨u2c0, u2c1, u2c2, u2c3, u2c4, u2b⟩
            clear hK9 K9
            try simp only [Act.put, List.setIfInBounds_toArray, List.set_cons_zero, List.set_cons_succ]
            refine wpAnyH_ready (rs := [3]) (by kernel_rfl) (by simp) ?_
            refine AllReadyH.cons (o := ⟨some 26, _, _, _, _, _⟩) rfl (fun K9 hK9 => ?_) AllReadyH.nil
            go_simp; go_at_call 36
            refine (HC9.out _).mono ?_
            rintro e u3 ⟨rfl, h3⟩
            have u3S : u3.cell? ⟨Bp, 0, none⟩ = some (.int .u64 x.f) ∧ u3.cell? ⟨Bp, 1, none⟩ = some (.int .u64 x.n) ∧ u3.cell? ⟨Bp, 2, none⟩ = some (.int .i64 x.s) ∧ u3.cell? ⟨w.heap.size, 0, none⟩ = some (.int .u64 f) ∧ u3.cell? ⟨w.heap.size, 1, none⟩ = some (.int .u64 n) ∧ Below V'.heap.size V' u3 := ⟨ecell h3 u2c0, ecell h3 u2c1, ecell h3 u2c2, ecell h3 u2c3, ecell h3 u2c4, bt u2b h3⟩
            obtain ⟨u3c0, u3c1, u3c2, u3c3, u3c4, u3b⟩ := u3S
            have u3T := u2T0.below h3
            refine hK9.out _ _ ?_ (fun hHeld => ?_)
            · exact ⟨u3c0, u3c1, u3c2, u3c3, u3c4, u3b⟩
            clear hK9 K9
            try simp only [Act.put, List.setIfInBounds_toArray, List.set_cons_zero, List.set_cons_succ]
            refine wpAnyH_take (i := 4) (oi := ⟨some 22, _, _, _, _, _⟩) (v := ?_) rfl (by kernel_rfl) (by kernel_rfl) (by kernel_rfl) (fun _ _ _ h => h) (Or.inl ⟨by rfl, ?_⟩) (by assumption) ?_
            rotate_left
            · (intro w9 hSw; (try dsimp only at hSw); go_simp; try with_reducible rfl)
            try simp only [Act.put, List.setIfInBounds_toArray, List.set_cons_zero, List.set_cons_succ]
            refine wpAnyH_take (i := 5) (oi := ⟨some 27, _, _, _, _, _⟩) (v := ?_) rfl (by kernel_rfl) (by kernel_rfl) (by kernel_rfl) (fun _ _ _ h => h) (Or.inl ⟨by rfl, ?_⟩) (by assumption) ?_
            rotate_left
            · (intro w9 hSw; (try dsimp only at hSw); go_simp; try with_reducible rfl)
            try simp only [Act.put, List.setIfInBounds_toArray, List.set_cons_zero, List.set_cons_succ]
            refine wpAnyH_take (i := 6) (oi := ⟨some 28, _, _, _, _, _⟩) (v := ?_) rfl (by kernel_rfl) (by kernel_rfl) (by kernel_rfl) (fun _ _ _ h => h) (Or.inl ⟨by rfl, ?_⟩) (by assumption) ?_
            rotate_left
            · (intro w9 hSw; (try dsimp only at hSw); go_simp; try with_reducible rfl)
            try simp only [Act.put, List.setIfInBounds_toArray, List.set_cons_zero, List.set_cons_succ]
            refine wpAnyH_ready (rs := [8]) (by kernel_rfl) (by simp) ?_
            refine AllReadyH.cons (o := ⟨none, _, _, _, _, _⟩) rfl (fun K9 hK9 => ?_) AllReadyH.nil
            have t90 : u3.cell? ⟨t9, 0, none⟩ = some (.int .u64 0) := u3T.cell 0; have t91 : u3.cell? ⟨t9, 1, none⟩ = some (.int .u64 0) := u3T.cell 1; have t92 : u3.frozen? ⟨t9, 0, none⟩ = false := u3T.frozen 0; have t93 : u3.frozen? ⟨t9, 1, none⟩ = false := u3T.frozen 1; go_simp
            have hst : Blk ((u3.setCell ⟨t9, 0, none⟩ (.int .u64 0)).setCell ⟨t9, 1, none⟩ (.int .u64 0)) t9 37 #[.int .u64 0, .int .u64 0] := (u3T.set_ 0 _).set_ 1 _
            have hsb : Below V'.heap.size V' ((u3.setCell ⟨t9, 0, none⟩ (.int .u64 0)).setCell ⟨t9, 1, none⟩ (.int .u64 0)) := (u3b.setCell (p := ⟨t9, 0, none⟩) ht9 _).setCell (p := ⟨t9, 1, none⟩) ht9 _
            generalize ((u3.setCell ⟨t9, 0, none⟩ (.int .u64 0)).setCell ⟨t9, 1, none⟩ (.int .u64 0)) = uF at hst hsb ⊢
            refine hK9.out _ _ ?_ (fun hHeld => ?_)
            · exact ⟨ecell hsb a0, ecell hsb a1, ecell hsb a2, ecell hsb a3, ecell hsb a4, hsb⟩
            clear hK9 K9
            try simp only [Act.put]
            refine wpAnyH_take (i := 9) (oi := ⟨some 10, _, _, _, _, _⟩) (v := ?_) rfl (by kernel_rfl) (by kernel_rfl) (by kernel_rfl) (fun _ _ _ h => h) (Or.inl ⟨by rfl, ?_⟩) (by assumption) ?_
            rotate_left
            · (intro w9 hSw; (try dsimp only at hSw); go_simp; try with_reducible rfl)
            try simp only [Act.put, List.setIfInBounds_toArray, List.set_cons_zero, List.set_cons_succ]
            refine wpAnyH_done (by kernel_rfl) ?_ _
            refine onlyW_normal ?_
            gi_wp2_with fail
            gi_meet
            case rel => exact ⟨t9, rfl, rfl, Lib.hid hsb, Lib.hid hst⟩
        refine AllReadyH.cons (o := ⟨some 9, _, _, _, _, _⟩) rfl (fun K9 hK9 => ?_) AllReadyH.nil
        · skip
          go_simp
          have h1 : Below V'.heap.size V' (V'.alloc (.cells #[.int .u64 0, .int .u64 0] 37)).drew := (ba (Below.refl _ _) _).drew
          have u1T0 : Blk (V'.alloc (.cells #[.int .u64 0, .int .u64 0] 37)).drew V'.heap.size 37 #[.int .u64 0, .int .u64 0] := Blk.new _ _ _
          generalize (V'.alloc (.cells #[.int .u64 0, .int .u64 0] 37)).drew = u1 at h1 u1T0 ⊢
          generalize hq9 : V'.heap.size = t9 at u1T0 ⊢
          have ht9 : V'.heap.size ≤ t9 := Nat.le_of_eq hq9
          have u1S : u1.cell? ⟨Bp, 0, none⟩ = some (.int .u64 x.f) ∧ u1.cell? ⟨Bp, 1, none⟩ = some (.int .u64 x.n) ∧ u1.cell? ⟨Bp, 2, none⟩ = some (.int .i64 x.s) ∧ u1.cell? ⟨w.heap.size, 0, none⟩ = some (.int .u64 f) ∧ u1.cell? ⟨w.heap.size, 1, none⟩ = some (.int .u64 n) ∧ Below V'.heap.size V' u1 := ⟨ecell h1 a0, ecell h1 a1, ecell h1 a2, ecell h1 a3, ecell h1 a4, bt (Below.refl V'.heap.size V') h1⟩
          obtain ⟨u1c0, u1c1, u1c2, u1c3, u1c4, u1b⟩ := u1S
          refine hK9.out _ _ ?_ (fun hHeld => ?_)
          · exact ⟨u1c0, u1c1, u1c2, u1c3, u1c4, u1b⟩
          clear hK9 K9
          try simp only [Act.put, List.setIfInBounds_toArray, List.set_cons_zero, List.set_cons_succ]
          refine wpAnyH_ready (rs := [1]) (by kernel_rfl) (by simp) ?_
          refine AllReadyH.cons (o := ⟨some 24, _, _, _, _, _⟩) rfl (fun K9 hK9 => ?_) AllReadyH.nil
          go_simp; go_at_call 37
          refine (HP.out x _).mono ?_
          rintro e u2 ⟨rfl, h2⟩
          have u2S : u2.cell? ⟨Bp, 0, none⟩ = some (.int .u64 x.f) ∧ u2.cell? ⟨Bp, 1, none⟩ = some (.int .u64 x.n) ∧ u2.cell? ⟨Bp, 2, none⟩ = some (.int .i64 x.s) ∧ u2.cell? ⟨w.heap.size, 0, none⟩ = some (.int .u64 f) ∧ u2.cell? ⟨w.heap.size, 1, none⟩ = some (.int .u64 n) ∧ Below V'.heap.size V' u2 := ⟨ecell h2 u1c0, ecell h2 u1c1, ecell h2 u1c2, ecell h2 u1c3, ecell h2 u1c4, bt u1b h2⟩
          obtain ⟨u2c0, u2c1, u2c2, u2c3, u2c4, u2b⟩ := u2S
          have u2T := u1T0.below h2
          refine hK9.out _ _ ?_ (fun hHeld => ?_)
          · exact ⟨u2c0, u2c1, u2c2, u2c3, u2c4, u2b⟩
          clear hK9 K9
          try simp only [Act.put, List.setIfInBounds_toArray, List.set_cons_zero, List.set_cons_succ]
          refine wpAnyH_ready (rs := [3]) (by kernel_rfl) (by simp) ?_
          refine AllReadyH.cons (o := ⟨some 26, _, _, _, _, _⟩) rfl (fun K9 hK9 => ?_) AllReadyH.nil
          go_simp; go_at_call 36
          refine (HC9.out _).mono ?_
          rintro e u3 ⟨rfl, h3⟩
          have u3S : u3.cell? ⟨Bp, 0, none⟩ = some (.int .u64 x.f) ∧ u3.cell? ⟨Bp, 1, none⟩ = some (.int .u64 x.n) ∧ u3.cell? ⟨Bp, 2, none⟩ = some (.int .i64 x.s) ∧ u3.cell? ⟨w.heap.size, 0, none⟩ = some (.int .u64 f) ∧ u3.cell? ⟨w.heap.size, 1, none⟩ = some (.int .u64 n) ∧ Below V'.heap.size V' u3 := ⟨ecell h3 u2c0, ecell h3 u2c1, ecell h3 u2c2, ecell h3 u2c3, ecell h3 u2c4, bt u2b h3⟩
          obtain ⟨u3c0, u3c1, u3c2, u3c3, u3c4, u3b⟩ := u3S
          have u3T := u2T.below h3
          refine hK9.out _ _ ?_ (fun hHeld => ?_)
          · exact ⟨u3c0, u3c1, u3c2, u3c3, u3c4, u3b⟩
          clear hK9 K9
          try simp only [Act.put, List.setIfInBounds_toArray, List.set_cons_zero, List.set_cons_succ]
          refine wpAnyH_take (i := 4) (oi := ⟨some 22, _, _, _, _, _⟩) (v := ?_) rfl (by kernel_rfl) (by kernel_rfl) (by kernel_rfl) (fun _ _ _ h => h) (Or.inl ⟨by rfl, ?_⟩) (by assumption) ?_
          rotate_left
          · (intro w9 hSw; (try dsimp only at hSw); go_simp; try with_reducible rfl)
          try simp only [Act.put, List.setIfInBounds_toArray, List.set_cons_zero, List.set_cons_succ]
          refine wpAnyH_take (i := 5) (oi := ⟨some 27, _, _, _, _, _⟩) (v := ?_) rfl (by kernel_rfl) (by kernel_rfl) (by kernel_rfl) (fun _ _ _ h => h) (Or.inl ⟨by rfl, ?_⟩) (by assumption) ?_
          rotate_left
          · (intro w9 hSw; (try dsimp only at hSw); go_simp; try with_reducible rfl)
          try simp only [Act.put, List.setIfInBounds_toArray, List.set_cons_zero, List.set_cons_succ]
          refine wpAnyH_take (i := 6) (oi := ⟨some 28, _, _, _, _, _⟩) (v := ?_) rfl (by kernel_rfl) (by kernel_rfl) (by kernel_rfl) (fun _ _ _ h => h) (Or.inl ⟨by rfl, ?_⟩) (by assumption) ?_
          rotate_left
          · (intro w9 hSw; (try dsimp only at hSw); go_simp; try with_reducible rfl)
          try simp only [Act.put, List.setIfInBounds_toArray, List.set_cons_zero, List.set_cons_succ]
          refine wpAnyH_ready (rs := [8]) (by kernel_rfl) (by simp) ?_
          refine AllReadyH.cons (o := ⟨none, _, _, _, _, _⟩) rfl (fun K9 hK9 => ?_) AllReadyH.nil
          have t90 : u3.cell? ⟨t9, 0, none⟩ = some (.int .u64 0) := u3T.cell 0; have t91 : u3.cell? ⟨t9, 1, none⟩ = some (.int .u64 0) := u3T.cell 1; have t92 : u3.frozen? ⟨t9, 0, none⟩ = false := u3T.frozen 0; have t93 : u3.frozen? ⟨t9, 1, none⟩ = false := u3T.frozen 1; go_simp
          have hst : Blk ((u3.setCell ⟨t9, 0, none⟩ (.int .u64 0)).setCell ⟨t9, 1, none⟩ (.int .u64 0)) t9 37 #[.int .u64 0, .int .u64 0] := (u3T.set_ 0 _).set_ 1 _
          have hsb : Below V'.heap.size V' ((u3.setCell ⟨t9, 0, none⟩ (.int .u64 0)).setCell ⟨t9, 1, none⟩ (.int .u64 0)) := (u3b.setCell (p := ⟨t9, 0, none⟩) ht9 _).setCell (p := ⟨t9, 1, none⟩) ht9 _
          generalize ((u3.setCell ⟨t9, 0, none⟩ (.int .u64 0)).setCell ⟨t9, 1, none⟩ (.int .u64 0)) = uF at hst hsb ⊢
          refine hK9.out _ _ ?_ (fun hHeld => ?_)
          · exact ⟨ecell hsb a0, ecell hsb a1, ecell hsb a2, ecell hsb a3, ecell hsb a4, hsb⟩
          clear hK9 K9
          try simp only [Act.put]
          refine wpAnyH_take (i := 9) (oi := ⟨some 10, _, _, _, _, _⟩) (v := ?_) rfl (by kernel_rfl) (by kernel_rfl) (by kernel_rfl) (fun _ _ _ h => h) (Or.inl ⟨by rfl, ?_⟩) (by assumption) ?_
          rotate_left
          · (intro w9 hSw; (try dsimp only at hSw); go_simp; try with_reducible rfl)
          try simp only [Act.put, List.setIfInBounds_toArray, List.set_cons_zero, List.set_cons_succ]
          refine wpAnyH_done (by kernel_rfl) ?_ _
          refine onlyW_normal ?_
          gi_wp2_with fail
          gi_meet
          case rel => exact ⟨t9, rfl, rfl, Lib.hid hsb, Lib.hid hst⟩
      case rest =>
        obtain ⟨t9, rfl, rfl, HF, HT⟩ := hcut
        clear a0 a1 a2 a3 a4 ab
        rename World => uF
        have HFIN : Hid (EQI w.heap.size w w2.heap.size w.heap.size f n (pre ++ [x]) Y uF ∧ Keep Y V' uF) := Lib.hid ⟨by
          have h9 := HI.out.below HLOW.out HF.out
          unfold EQI at h9 ⊢
          rw [HQ9.out]
          exact h9, Keep.of_below HF.out HBY.out⟩
        gi_wp2_with fail
        exact HFIN.out
  case done =>
    rintro D Y W hD ⟨⟨v, i1, i2, i3, i4, i5⟩, _⟩ hbY hYD hKd
    have hne := (eevery_len L 0)
    obtain ⟨A', c', rfl, hcc⟩ := own_form i2
    have HCC : Hid ((ecut f n (eevery 0 L)).length ≤ c') := Lib.hid (by rcases hcc with ⟨_, h1, h2⟩ | ⟨_, _, h1, _⟩ <;> omega)
    clear hcc hne
    have c0 : W.cell? ⟨w2.heap.size, 0, none⟩ = some (.slice A' (ecut f n (eevery 0 L)).length c') := i1.cell 0
    have HF : Hid (ER (W.putObj D (.deferred none)) A' (ecut f n (eevery 0 L))) := Lib.hid (own_ER (vown_kept i2 (fun k hk => by
        obtain ⟨_, cs, hb⟩ := vown_blk i2 k hk
        exact (vblk_putObj hb hKd rfl).trans hb.symm)) rfl)
    have HBW : Hid (Below w.heap.size w (W.putObj D (.deferred none))) := Lib.hid (i5.grown (grownBy_putObj' W D _) i5.size (fun k e => by cases e; omega))
    clear i1 i2 i3 i4 i5 HB0 HW0 HK0 HLK hgA
    gi_wp2
    refine ⟨by simp, .inl ⟨_, _, rfl, run_takeDeferred hKd, ?_⟩⟩
    exact ⟨.tuple #[.slice A' (ecut f n (eevery 0 L)).length c', .int .i64 0], by kernel_rfl, A', c', rfl, HCC.out, HF.out, HBW.out⟩
end Go.Proofs.Ythimnpiiehggnaa
