/- Texts of this seat, one behind the other: EJoin. -/
import Derived.Test.YthimnpiiehggnaaQ02
import Derived.Test.YthimnpiiehggnaaQ05
import Derived.Test.YthimnpiiehggnaaQ06
/- joined: what it hands on are the runs, those that touch in one state made one. -/
namespace Go.Proofs.Ythimnpiiehggnaa
open Go.RowKit Go.Shelf
attribute [local go_sem] Oper.semAt_some

/-- A run of blocks, of any state. -/
def EB (r : Rn) : Prop := 0 ≤ r.f ∧ 1 ≤ r.n ∧ r.f + r.n ≤ 576460752303423488
theorem ejoined_any (a : Option Addr) (len cap : Nat) (w : World) :
    Calls Try.prog 30 #[.slice a len cap] w fun e w' => e = .returned (.func (.func 41) #[] #[.pointer (some ⟨w.heap.size, 0, none⟩)]) ∧ w' = w.alloc (.cells #[.slice a len cap] 22) := by
  go_enter Try.func30, Try.ntmps30
  go_wp2
  go_ret
  exact ⟨rfl, rfl⟩
/-- What the handing function keeps between two rounds. -/
structure EJI (b0 : Nat) (J : List Rn → (Nat → Prop) → World → Prop) (W : World) (B g N : Nat) (pre : List Rn) (nw : Rn) (wr : World) : Prop where
  ex : ∃ Y : Nat → Prop, J pre Y wr ∧ Bd Y wr ∧ Y B ∧ Y g ∧ Y N
  b : wr.heap[B]? = W.heap[B]?
  g : wr.heap[g]? = W.heap[g]?
  now : Blk wr N 47 #[.int .u64 nw.f, .int .u64 nw.n, .int .i64 nw.s]
  low : b0 ≤ N
section
variable {b0 : Nat} {J : List Rn → (Nat → Prop) → World → Prop} {W wr W2 w3 : World} {B g N M : Nat} {pre : List Rn} {nw nx : Rn}
theorem EJI.below (h : EJI b0 J W B g N pre nw wr) (hJ : AbE b0 J) (hb : Below wr.heap.size wr W2) : EJI b0 J W B g N pre nw W2 := by
  obtain ⟨⟨Y, h1, h2, h3, h4, h5⟩, hB, hg, hn, h0⟩ := h
  have hl := hn.lt
  exact ⟨⟨Xn Y wr W2, hJ _ _ _ _ h1 (Grow.of_below hb Y) (hb.mono (by omega)), Xn.bd h2 hb.size, .inl h3, .inl h4, .inl h5⟩, (hb.block _ (h2 _ h3)).trans hB, (hb.block _ (h2 _ h4)).trans hg, hn.below hb, h0⟩
theorem EJI.set_ (h : EJI b0 J W B g N pre nw wr) (hJ : AbE b0 J) (hB : B ≠ N) (hg : g ≠ N) (l : List Value) (hl : l = [.int .u64 nx.f, .int .u64 nx.n, .int .i64 nx.s]) : EJI b0 J W B g N pre nx (wr.setCells N 0 l) := by
  obtain ⟨⟨Y, h1, h2, h3, h4, h5⟩, hb, hg', hn, h0⟩ := h
  subst hl
  have hgr : Grow Y wr (wr.setCells N 0 [.int .u64 nx.f, .int .u64 nx.n, .int .i64 nx.s]) := ⟨by simp [World.setCells, World.setCell], by simp [World.setCells, World.setCell], by simp [World.setCells, World.setCell], by rw [size_setCells]; exact Nat.le_refl _, fun k _ hk => setCells_heap _ _ _ _ _ (fun e => hk (e ▸ h5))⟩
  have hj := hJ _ _ _ _ h1 hgr (below_setCells h0 _ 0 wr wr (Below.refl _ _))
  rw [Xn.none (size_setCells _ _ _ _)] at hj
  exact ⟨⟨Y, hj, fun k hk => by rw [size_setCells]; exact h2 k hk, h3, h4, h5⟩, (setCells_heap _ _ _ _ _ hB).trans hb, (setCells_heap _ _ _ _ _ hg).trans hg', hn.whole _ rfl, h0⟩
theorem EJI.setN (h : EJI b0 J W B g N pre nw wr) (hJ : AbE b0 J) (hB : B ≠ N) (hg : g ≠ N) (m : Int) : EJI b0 J W B g N pre ⟨nw.f, m, nw.s⟩ (wr.setCell ⟨N, 1, none⟩ (.int .u64 m)) := by
  obtain ⟨⟨Y, h1, h2, h3, h4, h5⟩, hb, hg', hn, h0⟩ := h
  have hj := hJ _ _ _ _ h1 (Grow.setCell (g := N) (o := 1) h5 wr (.int .u64 m)) ((Below.refl b0 wr).setCell (p := ⟨N, 1, none⟩) h0 _)
  have hsz : (wr.setCell ⟨N, 1, none⟩ (.int .u64 m)).heap.size = wr.heap.size := by simp [World.setCell]
  rw [Xn.none hsz] at hj
  exact ⟨⟨Y, hj, fun k hk => by rw [hsz]; exact h2 k hk, h3, h4, h5⟩, (Below.heap_setCell wr ⟨N, 1, none⟩ _ B hB).trans hb, (Below.heap_setCell wr ⟨N, 1, none⟩ _ g hg).trans hg', hn.set_ 1 _, h0⟩
/-- What is ready to be handed on, with the blocks made since. -/
theorem EJI.give (h : EJI b0 J W B g N pre nw wr) (hJ : AbE b0 J) (hb : Below wr.heap.size wr w3) (h1 : wr.heap.size ≤ M) (h2 : M < w3.heap.size) :
    ∃ Y : Nat → Prop, J pre Y w3 ∧ Bd Y w3 ∧ Y M ∧ ∀ (W4 : World) (q : List Rn), J q Y W4 → Keep Y w3 W4 → EJI b0 J W B g N q nw W4 := by
  obtain ⟨⟨Y, y1, y2, y3, y4, y5⟩, hB, hg, hn, h0⟩ := h
  have hl := hn.lt
  have hbd := Xn.bd (B := w3) y2 hb.size
  refine ⟨Xn Y wr w3, hJ _ _ _ _ y1 (Grow.of_below hb Y) (hb.mono (by omega)), hbd, .inr ⟨h1, h2⟩, fun W4 q hq hk => ?_⟩
  exact ⟨⟨_, hq, fun k hkk => Nat.lt_of_lt_of_le (hbd k hkk) hk.1, .inl y3, .inl y4, .inl y5⟩, (hk.2 _ (.inl y3)).trans ((hb.block _ (y2 _ y3)).trans hB), (hk.2 _ (.inl y4)).trans ((hb.block _ (y2 _ y4)).trans hg), (hk.2 _ (.inl y5)).trans (hn.below hb), h0⟩
end

set_option maxRecDepth 100000 in
set_option maxHeartbeats 4000000 in
theorem ejoined_in (b0 n l B g cap : Nat) (hn : 1 ≤ n) (x0 : Rn) (rest : List Rn) (hcap : rest.length + 1 ≤ cap) (hm : cap ≤ maxLen) (J : List Rn → (Nat → Prop) → World → Prop) (X : Nat → Prop) (W : World) (hb0 : b0 ≤ W.heap.size) (hJ : AbE b0 J)
    (hY : ∀ pre x Y W1, J pre Y W1 → Bd Y W1 → (pre ++ [x]) <+: emerge x0 rest → YieldAt Fence.wide (n - 1) Try.prog l #[rv x] W1 fun e W' =>
      e = .returned (.bool true) ∧ J (pre ++ [x]) Y W' ∧ Keep Y W1 W')
    (hB : Blk W B 22 #[.slice (some ⟨g, 0, none⟩) (rest.length + 1) cap]) (hR : ER W (some ⟨g, 0, none⟩) (x0 :: rest)) (hXB : X B) (hXg : X g) (hbd : Bd X W) (h0 : J [] X W)
    (hok : ∀ r ∈ x0 :: rest, EB r) :
    CallsIn Fence.wide n Try.prog 41 #[.func (.yield l) #[] #[], .pointer (some ⟨B, 0, none⟩)] W fun e W' => (∃ v, e = .returned v) ∧ ∃ Y, J (emerge x0 rest) Y W' ∧ Bd Y W' := by
  have HY := Lib.hid hY
  have HJ := Lib.hid hJ
  have HB : Hid (B < W.heap.size ∧ g < W.heap.size ∧ B ≠ W.heap.size ∧ g ≠ W.heap.size) := Lib.hid ⟨hbd _ hXB, hbd _ hXg, Nat.ne_of_lt (hbd _ hXB), Nat.ne_of_lt (hbd _ hXg)⟩
  obtain ⟨g', off', e, c0, c1, c2⟩ := hR 0 (by simp)
  obtain ⟨rfl, rfl⟩ : g = g' ∧ 0 = off' := by injection e with e; injection e with e1 e2; exact ⟨e1, e2⟩
  simp only [Nat.zero_mul, Nat.add_zero, List.getD_cons_zero, Nat.zero_add] at c0 c1 c2
  have cB : W.cell? ⟨B, 0, none⟩ = some (.slice (some ⟨g, 0, none⟩) (rest.length + 1) cap) := hB.cell 0
  have HR : Hid (∀ wr : World, wr.heap[g]? = W.heap[g]? → ∀ k, k < rest.length → wr.cell? ⟨g, 3 + k * 3, none⟩ = some (.int .u64 (rest.getD k default).f) ∧ wr.cell? ⟨g, 3 + k * 3 + 1, none⟩ = some (.int .u64 (rest.getD k default).n) ∧ wr.cell? ⟨g, 3 + k * 3 + 2, none⟩ = some (.int .i64 (rest.getD k default).s)) := Lib.hid fun wr hg k hk => by
    have h1 := hR.kp (w' := wr) (fun g2 o2 e => by injection e with e; injection e with e1 _; subst e1; exact hg)
    obtain ⟨g2, o2, e, d0, d1, d2⟩ := h1 (k + 1) (by simpa using hk)
    obtain ⟨rfl, rfl⟩ : g = g2 ∧ 0 = o2 := by injection e with e; injection e with e1 e2; exact ⟨e1, e2⟩
    rw [show 0 + (k + 1) * 3 = 3 + k * 3 by omega, List.getD_cons_succ] at d0 d1 d2
    exact ⟨d0, d1, d2⟩
  have HO : Hid (EB x0 ∧ ∀ k, k < rest.length → EB (rest.getD k default)) := Lib.hid ⟨hok _ (List.mem_cons_self ..), fun k hk => hok _ (List.mem_cons_of_mem _ (egetD_mem hk))⟩
  have HST : Hid (EJI b0 J W B g W.heap.size [] x0 (W.alloc (.cells #[.int .u64 x0.f, .int .u64 x0.n, .int .i64 x0.s] 47))) := Lib.hid (by
    have hb := ba (Below.refl W.heap.size W) (.cells #[.int .u64 x0.f, .int .u64 x0.n, .int .i64 x0.s] 47)
    refine ⟨⟨Xn X W _, hJ _ _ _ _ h0 (Grow.of_below hb X) (hb.mono hb0), Xn.bd hbd hb.size, .inl hXB, .inl hXg, .inr ⟨Nat.le_refl _, by simp⟩⟩, hb.block _ (hbd _ hXB), hb.block _ (hbd _ hXg), Blk.new _ _ _, hb0⟩)
  clear hY hJ hB hR hXB hXg hbd h0 hok e
  unfold maxLen at hm
  have hz0 : ((rest.length : Int) + 1 == 0) = false := by simp; omega
  refine callsIn_of_wp Try.func41 rfl trivial ?_ rfl
  simp only [Try.ntmps41, List.size_toArray, List.length_cons, List.length_nil, Nat.reduceAdd, Nat.reduceSub, Array.replicate_succ, Array.replicate_zero, List.push_toArray, List.append_toArray, List.nil_append, List.cons_append]
  have zB := HB.out.1
  have zg := HB.out.2.1
  by_cases hc1' : cap = 1
  · have hr0 : rest.length = 0 := by omega
    gi_wp2
    gi_loopw [15] (fun i wr => ∃ (k : Nat) (nw : Rn) (pre : List Rn), k ≤ rest.length ∧ i = .int .i64 k ∧ pre ++ emerge nw (rest.drop k) = emerge x0 rest ∧ EB nw ∧ EJI b0 J W B g W.heap.size pre nw wr) (fun i _ => rest.length - (intOf i).toNat)
    case atStart => exact ⟨0, x0, [], Nat.zero_le _, rfl, rfl, HO.out.1, HST.out⟩
    case round =>
      obtain ⟨k, nw, pre, hk, rfl, hpre, HW, hI⟩ := hrel
      have HP := Lib.hid hpre
      have x0c : wr.cell? ⟨W.heap.size, 0, none⟩ = some (.int .u64 nw.f) := hI.now.cell 0
      have x1c : wr.cell? ⟨W.heap.size, 1, none⟩ = some (.int .u64 nw.n) := hI.now.cell 1
      have x2c : wr.cell? ⟨W.heap.size, 2, none⟩ = some (.int .i64 nw.s) := hI.now.cell 2
      clear hpre
      by_cases hlt : k < rest.length
      · exact absurd hlt (by omega)
      · skip
        obtain rfl : k = rest.length := by omega
        have he : pre ++ [nw] = emerge x0 rest := by have := HP.out; rw [List.drop_length] at this; exact this
        obtain ⟨Y, y1, y2, _⟩ := hI.ex
        obtain ⟨fn, tmps, assign, body, hy, hR⟩ := HY.out pre nw Y wr y1 y2 (by rw [he]; exact List.prefix_refl _)
        gi_wp2
        refine hR.mono ?_
        rintro e W3 ⟨rfl, hJ3, hk3⟩
        gi_wp2
        go_end0
        exact ⟨⟨_, rfl⟩, Y, by rw [← he]; exact hJ3, fun k hk => Nat.lt_of_lt_of_le (y2 k hk) hk3.1⟩
  · gi_wp2
    gi_loopw [15] (fun i wr => ∃ (k : Nat) (nw : Rn) (pre : List Rn), k ≤ rest.length ∧ i = .int .i64 k ∧ pre ++ emerge nw (rest.drop k) = emerge x0 rest ∧ EB nw ∧ EJI b0 J W B g W.heap.size pre nw wr) (fun i _ => rest.length - (intOf i).toNat)
    case atStart => exact ⟨0, x0, [], Nat.zero_le _, rfl, rfl, HO.out.1, HST.out⟩
    case round =>
      obtain ⟨k, nw, pre, hk, rfl, hpre, HW', hI⟩ := hrel
      have HP := Lib.hid hpre
      have HW := Lib.hid HW'
      clear hpre HW'
      by_cases hlt : k < rest.length
      · obtain ⟨d0, d1, d2⟩ := HR.out wr hI.g k hlt
        have HYO := Lib.hid (HO.out.2 k hlt)
        have HD : Hid (rest.drop k = rest.getD k default :: rest.drop (k + 1)) := Lib.hid (by rw [List.drop_eq_getElem_cons hlt]; simp [List.getD, hlt])
        have i0 : (0 : Int) ≤ (k : Int) := by omega
        have i1 : (k : Int) < (rest.length : Int) := by omega
        generalize rest.getD k default = y at d0 d1 d2 HYO HD
        have HE := Lib.hid (fun V => eend_any nw V HW.out.1 (by have := HW.out.2.1; omega) (by have := HW.out.2.2; omega))
        have HI2 : Hid (EJI b0 J W B g W.heap.size pre nw (wr.alloc (.cells #[.int .u64 y.f, .int .u64 y.n, .int .i64 y.s] 47)) ∧ Blk (wr.alloc (.cells #[.int .u64 y.f, .int .u64 y.n, .int .i64 y.s] 47)) wr.heap.size 47 #[.int .u64 y.f, .int .u64 y.n, .int .i64 y.s]) := Lib.hid ⟨hI.below HJ.out (ba (Below.refl _ _) _), Blk.new _ _ _⟩
        have HNE : Hid (W.heap.size ≠ wr.heap.size) := Lib.hid (Nat.ne_of_lt hI.now.lt)
        have HI1 := hI
        clear hI
        have HIW := Lib.hid HI1
        clear HI1
        by_cases hft : y.f = nw.f + nw.n
        · have HFT := Lib.hid hft
          have g1 : (y.f == nw.f + nw.n) = true := by simpa using hft
          clear hft
          by_cases hss : y.s = nw.s
          · have g2 : (y.s == nw.s) = true := by simpa using hss
            have HSS := Lib.hid hss
            clear hss
            gi_wp2_with fail
            have HBW : Hid (Below wr.heap.size wr (wr.alloc (.cells #[.int .u64 y.f, .int .u64 y.n, .int .i64 y.s] 47)) ∧ wr.heap.size < (wr.alloc (.cells #[.int .u64 y.f, .int .u64 y.n, .int .i64 y.s] 47)).heap.size) := Lib.hid ⟨ba (Below.refl _ _) _, by simp⟩
            have a0 : (wr.alloc (.cells #[.int .u64 y.f, .int .u64 y.n, .int .i64 y.s] 47)).cell? ⟨W.heap.size, 0, none⟩ = some (.int .u64 nw.f) := HI2.out.1.now.cell 0
            have a1 : (wr.alloc (.cells #[.int .u64 y.f, .int .u64 y.n, .int .i64 y.s] 47)).cell? ⟨W.heap.size, 1, none⟩ = some (.int .u64 nw.n) := HI2.out.1.now.cell 1
            have a2 : (wr.alloc (.cells #[.int .u64 y.f, .int .u64 y.n, .int .i64 y.s] 47)).cell? ⟨W.heap.size, 2, none⟩ = some (.int .i64 nw.s) := HI2.out.1.now.cell 2
            have b0 : (wr.alloc (.cells #[.int .u64 y.f, .int .u64 y.n, .int .i64 y.s] 47)).cell? ⟨wr.heap.size, 0, none⟩ = some (.int .u64 y.f) := HI2.out.2.cell 0
            have b2 : (wr.alloc (.cells #[.int .u64 y.f, .int .u64 y.n, .int .i64 y.s] 47)).cell? ⟨wr.heap.size, 2, none⟩ = some (.int .i64 y.s) := HI2.out.2.cell 2
            generalize wr.alloc (.cells #[.int .u64 y.f, .int .u64 y.n, .int .i64 y.s] 47) = W2 at HI2 HBW a0 a1 a2 b0 b2 ⊢
            refine wpIn_wide.2 ?_
            refine wp_region_held_drew (S := fun Wq => Wq.cell? ⟨wr.heap.size, 0, none⟩ = some (.int .u64 y.f) ∧ Wq.cell? ⟨wr.heap.size, 2, none⟩ = some (.int .i64 y.s) ∧ Wq.cell? ⟨W.heap.size, 0, none⟩ = some (.int .u64 nw.f) ∧ Wq.cell? ⟨W.heap.size, 1, none⟩ = some (.int .u64 nw.n) ∧ Wq.cell? ⟨W.heap.size, 2, none⟩ = some (.int .i64 nw.s) ∧ Below W2.heap.size W2 Wq) (by kernel_rfl) ⟨b0, b2, a0, a1, a2, (Below.refl _ _).drew⟩ (fun hHeld => ?_)
            refine wpAnyH_take (i := 0) (oi := ⟨some 19, _, _, _, _, _⟩) (v := ?_) rfl (by kernel_rfl) (by kernel_rfl) (by kernel_rfl) (fun _ _ _ h => h) (Or.inl ⟨by rfl, ?_⟩) (by assumption) ?_
            rotate_left
            · (intro w9 hSw; (try dsimp only at hSw); go_simp; try with_reducible rfl)
            try simp only [Act.put, List.setIfInBounds_toArray, List.set_cons_zero, List.set_cons_succ]
            refine wpAnyH_take (i := 1) (oi := ⟨some 20, _, _, _, _, _⟩) (v := .int .u64 y.f) rfl (by kernel_rfl) (by kernel_rfl) (by kernel_rfl) (fun _ _ _ h => h) (Or.inl ⟨by rfl, ?_⟩) (by assumption) ?_
            · (intro w9 hSw; obtain ⟨q0, q1, q2, q3, q4, _⟩ := hSw; (try dsimp only at hSw); go_simp; try with_reducible rfl)
            try simp only [Act.put, List.setIfInBounds_toArray, List.set_cons_zero, List.set_cons_succ]
            refine wpAnyH_take (i := 2) (oi := ⟨some 21, _, _, _, _, _⟩) (v := .agg #[.int .u64 nw.f, .int .u64 nw.n, .int .i64 nw.s]) rfl (by kernel_rfl) (by kernel_rfl) (by kernel_rfl) (fun _ _ _ h => h) (Or.inl ⟨by rfl, ?_⟩) (by assumption) ?_
            · (intro w9 hSw; obtain ⟨q0, q1, q2, q3, q4, _⟩ := hSw; (try dsimp only at hSw); go_simp; try with_reducible rfl)
            try simp only [Act.put, List.setIfInBounds_toArray, List.set_cons_zero, List.set_cons_succ]
            refine wpAnyH_ready (rs := [3]) (by kernel_rfl) (by simp) ?_
            refine AllReadyH.cons (o := ⟨some 22, _, _, _, _, _⟩) rfl (fun K9 hK9 => ?_) AllReadyH.nil
            go_simp; go_at_call 22
            refine (HE.out _).mono ?_
            rintro e w3 ⟨rfl, hb3⟩
            have hb3S : w3.cell? ⟨wr.heap.size, 0, none⟩ = some (.int .u64 y.f) ∧ w3.cell? ⟨wr.heap.size, 2, none⟩ = some (.int .i64 y.s) ∧ w3.cell? ⟨W.heap.size, 0, none⟩ = some (.int .u64 nw.f) ∧ w3.cell? ⟨W.heap.size, 1, none⟩ = some (.int .u64 nw.n) ∧ w3.cell? ⟨W.heap.size, 2, none⟩ = some (.int .i64 nw.s) ∧ Below W2.heap.size W2 w3 := ⟨ecell hb3 b0, ecell hb3 b2, ecell hb3 a0, ecell hb3 a1, ecell hb3 a2, bt ((Below.refl _ _).drew) hb3⟩
            refine hK9.out _ _ ?_ (fun hHeld => ?_)
            · exact hb3S
            clear hK9 K9
            try simp only [Act.put, List.setIfInBounds_toArray, List.set_cons_zero, List.set_cons_succ]
            refine wpAnyH_take (i := 4) (oi := ⟨some 23, _, _, _, _, _⟩) (v := ?_) rfl (by kernel_rfl) (by kernel_rfl) (by kernel_rfl) (fun _ _ _ h => h) (Or.inl ⟨by rfl, ?_⟩) (by assumption) ?_
            rotate_left
            · (intro w9 hSw; (try dsimp only at hSw); go_simp; try with_reducible rfl)
            try simp only [Act.put, List.setIfInBounds_toArray, List.set_cons_zero, List.set_cons_succ]
            refine wpAnyH_take (i := 5) (oi := ⟨some 24, _, _, _, _, _⟩) (v := ?_) rfl (by kernel_rfl) (by kernel_rfl) (by kernel_rfl) (fun _ _ _ h => h) (Or.inl ⟨by rfl, ?_⟩) (by assumption) ?_
            rotate_left
            · (intro w9 hSw; (try dsimp only at hSw); go_simp; try with_reducible rfl)
            try simp only [Act.put, List.setIfInBounds_toArray, List.set_cons_zero, List.set_cons_succ]
            refine wpAnyH_take (i := 6) (oi := ⟨some 25, _, _, _, _, _⟩) (v := ?_) rfl (by kernel_rfl) (by kernel_rfl) (by kernel_rfl) (fun _ _ _ h => h) (Or.inl ⟨by rfl, ?_⟩) (by assumption) ?_
            rotate_left
            · (intro w9 hSw; (try dsimp only at hSw); go_simp; try with_reducible rfl)
            try simp only [Act.put, List.setIfInBounds_toArray, List.set_cons_zero, List.set_cons_succ]
            refine wpAnyH_take (i := 7) (oi := ⟨some 26, _, _, _, _, _⟩) (v := .int .i64 y.s) rfl (by kernel_rfl) (by kernel_rfl) (by kernel_rfl) (fun _ _ _ h => h) (Or.inl ⟨by rfl, ?_⟩) (by assumption) ?_
            · (intro w9 hSw; obtain ⟨q0, q1, q2, q3, q4, _⟩ := hSw; (try dsimp only at hSw); go_simp; try with_reducible rfl)
            try simp only [Act.put, List.setIfInBounds_toArray, List.set_cons_zero, List.set_cons_succ]
            refine wpAnyH_take (i := 8) (oi := ⟨some 27, _, _, _, _, _⟩) (v := ?_) rfl (by kernel_rfl) (by kernel_rfl) (by kernel_rfl) (fun _ _ _ h => h) (Or.inl ⟨by rfl, ?_⟩) (by assumption) ?_
            rotate_left
            · (intro w9 hSw; (try dsimp only at hSw); go_simp; try with_reducible rfl)
            try simp only [Act.put, List.setIfInBounds_toArray, List.set_cons_zero, List.set_cons_succ]
            refine wpAnyH_take (i := 9) (oi := ⟨some 28, _, _, _, _, _⟩) (v := .int .i64 nw.s) rfl (by kernel_rfl) (by kernel_rfl) (by kernel_rfl) (fun _ _ _ h => h) (Or.inl ⟨by rfl, ?_⟩) (by assumption) ?_
            · (intro w9 hSw; obtain ⟨q0, q1, q2, q3, q4, _⟩ := hSw; (try dsimp only at hSw); go_simp; try with_reducible rfl)
            try simp only [Act.put, List.setIfInBounds_toArray, List.set_cons_zero, List.set_cons_succ]
            refine wpAnyH_take (i := 10) (oi := ⟨some 29, _, _, _, _, _⟩) (v := ?_) rfl (by kernel_rfl) (by kernel_rfl) (by kernel_rfl) (fun _ _ _ h => h) (Or.inl ⟨by rfl, ?_⟩) (by assumption) ?_
            rotate_left
            · (intro w9 hSw; (try dsimp only at hSw); go_simp; try with_reducible rfl)
            try simp only [Act.put, List.setIfInBounds_toArray, List.set_cons_zero, List.set_cons_succ]
            refine wpAnyH_take (i := 11) (oi := ⟨some 30, _, _, _, _, _⟩) (v := ?_) rfl (by kernel_rfl) (by kernel_rfl) (by kernel_rfl) (fun _ _ _ h => h) (Or.inl ⟨by rfl, ?_⟩) (by assumption) ?_
            rotate_left
            · (intro w9 hSw; (try dsimp only at hSw); go_simp; try with_reducible rfl)
            try simp only [Act.put, List.setIfInBounds_toArray, List.set_cons_zero, List.set_cons_succ]
            refine wpAnyH_done (by kernel_rfl) ?_ _
            obtain ⟨_, _, _, _, _, hbx⟩ := hb3S
            have HI3 := Lib.hid (HI2.out.1.below HJ.out hbx)
            have HB3 := Lib.hid (HI2.out.2.below hbx)
            have p1 : w3.cell? ⟨W.heap.size, 1, none⟩ = some (.int .u64 nw.n) := HI3.out.now.cell 1
            have p2 : w3.frozen? ⟨W.heap.size, 1, none⟩ = false := HI3.out.now.frozen 1
            have q1 : w3.cell? ⟨wr.heap.size, 1, none⟩ = some (.int .u64 y.n) := HB3.out.cell 1
            have u0 : 0 ≤ nw.n + y.n := by have := HW.out.2.1; have := HYO.out.2.1; omega
            have u1 : nw.n + y.n ≤ 18446744073709551615 := by have := HW.out; have := HYO.out; unfold EB at *; omega
            clear hbx hb3 a0 a1 a2 b0 b2
            gi_wp2
            go_roundw
            case rel => exact ⟨k + 1, ⟨nw.f, nw.n + y.n, nw.s⟩, pre, by omega, by go_num, by rw [← HP.out, HD.out, emerge_yes ⟨HFT.out, HSS.out⟩], ⟨HW.out.1, by show 1 ≤ nw.n + y.n; have := HW.out.2.1; have := HYO.out.2.1; omega, by show nw.f + (nw.n + y.n) ≤ _; have := HYO.out.2.2; have := HFT.out; omega⟩, HI3.out.setN HJ.out HB.out.2.2.1 HB.out.2.2.2 _⟩
            case measure => simp [intOf]; omega
          · have g2 : (y.s == nw.s) = false := by simpa using hss
            have HSS := Lib.hid hss
            clear hss
            gi_wp2_with fail
            have HBW : Hid (Below wr.heap.size wr (wr.alloc (.cells #[.int .u64 y.f, .int .u64 y.n, .int .i64 y.s] 47)) ∧ wr.heap.size < (wr.alloc (.cells #[.int .u64 y.f, .int .u64 y.n, .int .i64 y.s] 47)).heap.size) := Lib.hid ⟨ba (Below.refl _ _) _, by simp⟩
            have a0 : (wr.alloc (.cells #[.int .u64 y.f, .int .u64 y.n, .int .i64 y.s] 47)).cell? ⟨W.heap.size, 0, none⟩ = some (.int .u64 nw.f) := HI2.out.1.now.cell 0
            have a1 : (wr.alloc (.cells #[.int .u64 y.f, .int .u64 y.n, .int .i64 y.s] 47)).cell? ⟨W.heap.size, 1, none⟩ = some (.int .u64 nw.n) := HI2.out.1.now.cell 1
            have a2 : (wr.alloc (.cells #[.int .u64 y.f, .int .u64 y.n, .int .i64 y.s] 47)).cell? ⟨W.heap.size, 2, none⟩ = some (.int .i64 nw.s) := HI2.out.1.now.cell 2
            have b0 : (wr.alloc (.cells #[.int .u64 y.f, .int .u64 y.n, .int .i64 y.s] 47)).cell? ⟨wr.heap.size, 0, none⟩ = some (.int .u64 y.f) := HI2.out.2.cell 0
            have b2 : (wr.alloc (.cells #[.int .u64 y.f, .int .u64 y.n, .int .i64 y.s] 47)).cell? ⟨wr.heap.size, 2, none⟩ = some (.int .i64 y.s) := HI2.out.2.cell 2
            generalize wr.alloc (.cells #[.int .u64 y.f, .int .u64 y.n, .int .i64 y.s] 47) = W2 at HI2 HBW a0 a1 a2 b0 b2 ⊢
            refine wpIn_wide.2 ?_
            refine wp_region_held_drew (S := fun Wq => Wq.cell? ⟨wr.heap.size, 0, none⟩ = some (.int .u64 y.f) ∧ Wq.cell? ⟨wr.heap.size, 2, none⟩ = some (.int .i64 y.s) ∧ Wq.cell? ⟨W.heap.size, 0, none⟩ = some (.int .u64 nw.f) ∧ Wq.cell? ⟨W.heap.size, 1, none⟩ = some (.int .u64 nw.n) ∧ Wq.cell? ⟨W.heap.size, 2, none⟩ = some (.int .i64 nw.s) ∧ Below W2.heap.size W2 Wq) (by kernel_rfl) ⟨b0, b2, a0, a1, a2, (Below.refl _ _).drew⟩ (fun hHeld => ?_)
            refine wpAnyH_take (i := 0) (oi := ⟨some 19, _, _, _, _, _⟩) (v := ?_) rfl (by kernel_rfl) (by kernel_rfl) (by kernel_rfl) (fun _ _ _ h => h) (Or.inl ⟨by rfl, ?_⟩) (by assumption) ?_
            rotate_left
            · (intro w9 hSw; (try dsimp only at hSw); go_simp; try with_reducible rfl)
            try simp only [Act.put, List.setIfInBounds_toArray, List.set_cons_zero, List.set_cons_succ]
            refine wpAnyH_take (i := 1) (oi := ⟨some 20, _, _, _, _, _⟩) (v := .int .u64 y.f) rfl (by kernel_rfl) (by kernel_rfl) (by kernel_rfl) (fun _ _ _ h => h) (Or.inl ⟨by rfl, ?_⟩) (by assumption) ?_
            · (intro w9 hSw; obtain ⟨q0, q1, q2, q3, q4, _⟩ := hSw; (try dsimp only at hSw); go_simp; try with_reducible rfl)
            try simp only [Act.put, List.setIfInBounds_toArray, List.set_cons_zero, List.set_cons_succ]
            refine wpAnyH_take (i := 2) (oi := ⟨some 21, _, _, _, _, _⟩) (v := .agg #[.int .u64 nw.f, .int .u64 nw.n, .int .i64 nw.s]) rfl (by kernel_rfl) (by kernel_rfl) (by kernel_rfl) (fun _ _ _ h => h) (Or.inl ⟨by rfl, ?_⟩) (by assumption) ?_
            · (intro w9 hSw; obtain ⟨q0, q1, q2, q3, q4, _⟩ := hSw; (try dsimp only at hSw); go_simp; try with_reducible rfl)
            try simp only [Act.put, List.setIfInBounds_toArray, List.set_cons_zero, List.set_cons_succ]
            refine wpAnyH_ready (rs := [3]) (by kernel_rfl) (by simp) ?_
            refine AllReadyH.cons (o := ⟨some 22, _, _, _, _, _⟩) rfl (fun K9 hK9 => ?_) AllReadyH.nil
            go_simp; go_at_call 22
            refine (HE.out _).mono ?_
            rintro e w3 ⟨rfl, hb3⟩
            have hb3S : w3.cell? ⟨wr.heap.size, 0, none⟩ = some (.int .u64 y.f) ∧ w3.cell? ⟨wr.heap.size, 2, none⟩ = some (.int .i64 y.s) ∧ w3.cell? ⟨W.heap.size, 0, none⟩ = some (.int .u64 nw.f) ∧ w3.cell? ⟨W.heap.size, 1, none⟩ = some (.int .u64 nw.n) ∧ w3.cell? ⟨W.heap.size, 2, none⟩ = some (.int .i64 nw.s) ∧ Below W2.heap.size W2 w3 := ⟨ecell hb3 b0, ecell hb3 b2, ecell hb3 a0, ecell hb3 a1, ecell hb3 a2, bt ((Below.refl _ _).drew) hb3⟩
            refine hK9.out _ _ ?_ (fun hHeld => ?_)
            · exact hb3S
            clear hK9 K9
            try simp only [Act.put, List.setIfInBounds_toArray, List.set_cons_zero, List.set_cons_succ]
            refine wpAnyH_take (i := 4) (oi := ⟨some 23, _, _, _, _, _⟩) (v := ?_) rfl (by kernel_rfl) (by kernel_rfl) (by kernel_rfl) (fun _ _ _ h => h) (Or.inl ⟨by rfl, ?_⟩) (by assumption) ?_
            rotate_left
            · (intro w9 hSw; (try dsimp only at hSw); go_simp; try with_reducible rfl)
            try simp only [Act.put, List.setIfInBounds_toArray, List.set_cons_zero, List.set_cons_succ]
            refine wpAnyH_take (i := 5) (oi := ⟨some 24, _, _, _, _, _⟩) (v := ?_) rfl (by kernel_rfl) (by kernel_rfl) (by kernel_rfl) (fun _ _ _ h => h) (Or.inl ⟨by rfl, ?_⟩) (by assumption) ?_
            rotate_left
            · (intro w9 hSw; (try dsimp only at hSw); go_simp; try with_reducible rfl)
            try simp only [Act.put, List.setIfInBounds_toArray, List.set_cons_zero, List.set_cons_succ]
            refine wpAnyH_take (i := 6) (oi := ⟨some 25, _, _, _, _, _⟩) (v := ?_) rfl (by kernel_rfl) (by kernel_rfl) (by kernel_rfl) (fun _ _ _ h => h) (Or.inl ⟨by rfl, ?_⟩) (by assumption) ?_
            rotate_left
            · (intro w9 hSw; (try dsimp only at hSw); go_simp; try with_reducible rfl)
            try simp only [Act.put, List.setIfInBounds_toArray, List.set_cons_zero, List.set_cons_succ]
            refine wpAnyH_take (i := 7) (oi := ⟨some 26, _, _, _, _, _⟩) (v := .int .i64 y.s) rfl (by kernel_rfl) (by kernel_rfl) (by kernel_rfl) (fun _ _ _ h => h) (Or.inl ⟨by rfl, ?_⟩) (by assumption) ?_
            · (intro w9 hSw; obtain ⟨q0, q1, q2, q3, q4, _⟩ := hSw; (try dsimp only at hSw); go_simp; try with_reducible rfl)
            try simp only [Act.put, List.setIfInBounds_toArray, List.set_cons_zero, List.set_cons_succ]
            refine wpAnyH_take (i := 8) (oi := ⟨some 27, _, _, _, _, _⟩) (v := ?_) rfl (by kernel_rfl) (by kernel_rfl) (by kernel_rfl) (fun _ _ _ h => h) (Or.inl ⟨by rfl, ?_⟩) (by assumption) ?_
            rotate_left
            · (intro w9 hSw; (try dsimp only at hSw); go_simp; try with_reducible rfl)
            try simp only [Act.put, List.setIfInBounds_toArray, List.set_cons_zero, List.set_cons_succ]
            refine wpAnyH_take (i := 9) (oi := ⟨some 28, _, _, _, _, _⟩) (v := .int .i64 nw.s) rfl (by kernel_rfl) (by kernel_rfl) (by kernel_rfl) (fun _ _ _ h => h) (Or.inl ⟨by rfl, ?_⟩) (by assumption) ?_
            · (intro w9 hSw; obtain ⟨q0, q1, q2, q3, q4, _⟩ := hSw; (try dsimp only at hSw); go_simp; try with_reducible rfl)
            try simp only [Act.put, List.setIfInBounds_toArray, List.set_cons_zero, List.set_cons_succ]
            refine wpAnyH_take (i := 10) (oi := ⟨some 29, _, _, _, _, _⟩) (v := ?_) rfl (by kernel_rfl) (by kernel_rfl) (by kernel_rfl) (fun _ _ _ h => h) (Or.inl ⟨by rfl, ?_⟩) (by assumption) ?_
            rotate_left
            · (intro w9 hSw; (try dsimp only at hSw); go_simp; try with_reducible rfl)
            try simp only [Act.put, List.setIfInBounds_toArray, List.set_cons_zero, List.set_cons_succ]
            refine wpAnyH_take (i := 11) (oi := ⟨some 30, _, _, _, _, _⟩) (v := ?_) rfl (by kernel_rfl) (by kernel_rfl) (by kernel_rfl) (fun _ _ _ h => h) (Or.inl ⟨by rfl, ?_⟩) (by assumption) ?_
            rotate_left
            · (intro w9 hSw; (try dsimp only at hSw); go_simp; try with_reducible rfl)
            try simp only [Act.put, List.setIfInBounds_toArray, List.set_cons_zero, List.set_cons_succ]
            refine wpAnyH_done (by kernel_rfl) ?_ _
            obtain ⟨_, _, _, _, _, hbx⟩ := hb3S
            have HB3 := Lib.hid (HI2.out.2.below hbx)
            have HZ := Lib.hid (bt HBW.out.1 hbx)
            have HG := Lib.hid (HIW.out.give HJ.out HZ.out (Nat.le_refl wr.heap.size) HB3.out.lt)
            obtain ⟨Y, y1, y2, y3, y4⟩ := HG.out
            have HY4 := Lib.hid y4
            have HKP : Hid (pre ++ [nw] ++ emerge y (rest.drop (k + 1)) = emerge x0 rest) := Lib.hid (by rw [← HP.out, HD.out, emerge_no (fun h => HSS.out h.2), List.append_assoc]; rfl)
            obtain ⟨fn, tmps, assign, body, hy, hR⟩ := HY.out pre nw Y w3 y1 y2 ⟨_, HKP.out⟩
            have p0 : w3.cell? ⟨W.heap.size, 0, none⟩ = some (.int .u64 nw.f) := (HI2.out.1.below HJ.out hbx).now.cell 0
            have p1 : w3.cell? ⟨W.heap.size, 1, none⟩ = some (.int .u64 nw.n) := (HI2.out.1.below HJ.out hbx).now.cell 1
            have p2 : w3.cell? ⟨W.heap.size, 2, none⟩ = some (.int .i64 nw.s) := (HI2.out.1.below HJ.out hbx).now.cell 2
            have HYM := Lib.hid y3
            clear hbx hb3 y1 y2 y3 y4 a0 a1 a2 b0 b2
            gi_wp2
            refine hR.mono ?_
            rintro e W4 ⟨rfl, hJ4, hk4⟩
            have HI4 := Lib.hid (HY4.out W4 _ hJ4 hk4)
            have HB4 : Hid (Blk W4 wr.heap.size 47 #[.int .u64 y.f, .int .u64 y.n, .int .i64 y.s]) := Lib.hid ((hk4.2 _ HYM.out).trans HB3.out)
            have r0 : W4.cell? ⟨wr.heap.size, 0, none⟩ = some (.int .u64 y.f) := HB4.out.cell 0
            have r1 : W4.cell? ⟨wr.heap.size, 1, none⟩ = some (.int .u64 y.n) := HB4.out.cell 1
            have r2 : W4.cell? ⟨wr.heap.size, 2, none⟩ = some (.int .i64 y.s) := HB4.out.cell 2
            have s0 : W4.cell? ⟨W.heap.size, 0, none⟩ = some (.int .u64 nw.f) := HI4.out.now.cell 0
            have s1 : W4.cell? ⟨W.heap.size, 1, none⟩ = some (.int .u64 nw.n) := HI4.out.now.cell 1
            have s2 : W4.cell? ⟨W.heap.size, 2, none⟩ = some (.int .i64 nw.s) := HI4.out.now.cell 2
            have t0 : W4.frozen? ⟨W.heap.size, 0, none⟩ = false := HI4.out.now.frozen 0
            have t1 : W4.frozen? ⟨W.heap.size, 1, none⟩ = false := HI4.out.now.frozen 1
            have t2 : W4.frozen? ⟨W.heap.size, 2, none⟩ = false := HI4.out.now.frozen 2
            clear hJ4 hk4 p0 p1 p2
            gi_wp2
            go_roundw
            case rel => exact ⟨k + 1, y, pre ++ [nw], by omega, by go_num, HKP.out, HYO.out, HI4.out.set_ HJ.out HB.out.2.2.1 HB.out.2.2.2 [.int .u64 y.f, .int .u64 y.n, .int .i64 y.s] rfl⟩
            case measure => simp [intOf]; omega
        · have HFT := Lib.hid hft
          have g1 : (y.f == nw.f + nw.n) = false := by simpa using hft
          clear hft
          gi_wp2_with fail
          have HBW : Hid (Below wr.heap.size wr (wr.alloc (.cells #[.int .u64 y.f, .int .u64 y.n, .int .i64 y.s] 47)) ∧ wr.heap.size < (wr.alloc (.cells #[.int .u64 y.f, .int .u64 y.n, .int .i64 y.s] 47)).heap.size) := Lib.hid ⟨ba (Below.refl _ _) _, by simp⟩
          have a0 : (wr.alloc (.cells #[.int .u64 y.f, .int .u64 y.n, .int .i64 y.s] 47)).cell? ⟨W.heap.size, 0, none⟩ = some (.int .u64 nw.f) := HI2.out.1.now.cell 0
          have a1 : (wr.alloc (.cells #[.int .u64 y.f, .int .u64 y.n, .int .i64 y.s] 47)).cell? ⟨W.heap.size, 1, none⟩ = some (.int .u64 nw.n) := HI2.out.1.now.cell 1
          have a2 : (wr.alloc (.cells #[.int .u64 y.f, .int .u64 y.n, .int .i64 y.s] 47)).cell? ⟨W.heap.size, 2, none⟩ = some (.int .i64 nw.s) := HI2.out.1.now.cell 2
          have b0 : (wr.alloc (.cells #[.int .u64 y.f, .int .u64 y.n, .int .i64 y.s] 47)).cell? ⟨wr.heap.size, 0, none⟩ = some (.int .u64 y.f) := HI2.out.2.cell 0
          have b2 : (wr.alloc (.cells #[.int .u64 y.f, .int .u64 y.n, .int .i64 y.s] 47)).cell? ⟨wr.heap.size, 2, none⟩ = some (.int .i64 y.s) := HI2.out.2.cell 2
          generalize wr.alloc (.cells #[.int .u64 y.f, .int .u64 y.n, .int .i64 y.s] 47) = W2 at HI2 HBW a0 a1 a2 b0 b2 ⊢
          refine wpIn_wide.2 ?_
          refine wp_region_held_drew (S := fun Wq => Wq.cell? ⟨wr.heap.size, 0, none⟩ = some (.int .u64 y.f) ∧ Wq.cell? ⟨wr.heap.size, 2, none⟩ = some (.int .i64 y.s) ∧ Wq.cell? ⟨W.heap.size, 0, none⟩ = some (.int .u64 nw.f) ∧ Wq.cell? ⟨W.heap.size, 1, none⟩ = some (.int .u64 nw.n) ∧ Wq.cell? ⟨W.heap.size, 2, none⟩ = some (.int .i64 nw.s) ∧ Below W2.heap.size W2 Wq) (by kernel_rfl) ⟨b0, b2, a0, a1, a2, (Below.refl _ _).drew⟩ (fun hHeld => ?_)
          refine wpAnyH_take (i := 0) (oi := ⟨some 19, _, _, _, _, _⟩) (v := ?_) rfl (by kernel_rfl) (by kernel_rfl) (by kernel_rfl) (fun _ _ _ h => h) (Or.inl ⟨by rfl, ?_⟩) (by assumption) ?_
          rotate_left
          · (intro w9 hSw; (try dsimp only at hSw); go_simp; try with_reducible rfl)
          try simp only [Act.put, List.setIfInBounds_toArray, List.set_cons_zero, List.set_cons_succ]
          refine wpAnyH_take (i := 1) (oi := ⟨some 20, _, _, _, _, _⟩) (v := .int .u64 y.f) rfl (by kernel_rfl) (by kernel_rfl) (by kernel_rfl) (fun _ _ _ h => h) (Or.inl ⟨by rfl, ?_⟩) (by assumption) ?_
          · (intro w9 hSw; obtain ⟨q0, q1, q2, q3, q4, _⟩ := hSw; (try dsimp only at hSw); go_simp; try with_reducible rfl)
          try simp only [Act.put, List.setIfInBounds_toArray, List.set_cons_zero, List.set_cons_succ]
          refine wpAnyH_take (i := 2) (oi := ⟨some 21, _, _, _, _, _⟩) (v := .agg #[.int .u64 nw.f, .int .u64 nw.n, .int .i64 nw.s]) rfl (by kernel_rfl) (by kernel_rfl) (by kernel_rfl) (fun _ _ _ h => h) (Or.inl ⟨by rfl, ?_⟩) (by assumption) ?_
          · (intro w9 hSw; obtain ⟨q0, q1, q2, q3, q4, _⟩ := hSw; (try dsimp only at hSw); go_simp; try with_reducible rfl)
          try simp only [Act.put, List.setIfInBounds_toArray, List.set_cons_zero, List.set_cons_succ]
          refine wpAnyH_ready (rs := [3]) (by kernel_rfl) (by simp) ?_
          refine AllReadyH.cons (o := ⟨some 22, _, _, _, _, _⟩) rfl (fun K9 hK9 => ?_) AllReadyH.nil
          go_simp; go_at_call 22
          refine (HE.out _).mono ?_
          rintro e w3 ⟨rfl, hb3⟩
          have hb3S : w3.cell? ⟨wr.heap.size, 0, none⟩ = some (.int .u64 y.f) ∧ w3.cell? ⟨wr.heap.size, 2, none⟩ = some (.int .i64 y.s) ∧ w3.cell? ⟨W.heap.size, 0, none⟩ = some (.int .u64 nw.f) ∧ w3.cell? ⟨W.heap.size, 1, none⟩ = some (.int .u64 nw.n) ∧ w3.cell? ⟨W.heap.size, 2, none⟩ = some (.int .i64 nw.s) ∧ Below W2.heap.size W2 w3 := ⟨ecell hb3 b0, ecell hb3 b2, ecell hb3 a0, ecell hb3 a1, ecell hb3 a2, bt ((Below.refl _ _).drew) hb3⟩
          refine hK9.out _ _ ?_ (fun hHeld => ?_)
          · exact hb3S
          clear hK9 K9
          try simp only [Act.put, List.setIfInBounds_toArray, List.set_cons_zero, List.set_cons_succ]
          refine wpAnyH_take (i := 4) (oi := ⟨some 23, _, _, _, _, _⟩) (v := ?_) rfl (by kernel_rfl) (by kernel_rfl) (by kernel_rfl) (fun _ _ _ h => h) (Or.inl ⟨by rfl, ?_⟩) (by assumption) ?_
          rotate_left
          · (intro w9 hSw; (try dsimp only at hSw); go_simp; try with_reducible rfl)
          try simp only [Act.put, List.setIfInBounds_toArray, List.set_cons_zero, List.set_cons_succ]
          refine wpAnyH_take (i := 5) (oi := ⟨some 24, _, _, _, _, _⟩) (v := ?_) rfl (by kernel_rfl) (by kernel_rfl) (by kernel_rfl) (fun _ _ _ h => h) (Or.inl ⟨by rfl, ?_⟩) (by assumption) ?_
          rotate_left
          · (intro w9 hSw; (try dsimp only at hSw); go_simp; try with_reducible rfl)
          try simp only [Act.put, List.setIfInBounds_toArray, List.set_cons_zero, List.set_cons_succ]
          refine wpAnyH_take (i := 6) (oi := ⟨some 25, _, _, _, _, _⟩) (v := undef) rfl (by kernel_rfl) (by kernel_rfl) (by kernel_rfl) (fun _ _ _ h => h) (Or.inr ⟨by rfl, rfl⟩) (by assumption) ?_
          try simp only [Act.put, List.setIfInBounds_toArray, List.set_cons_zero, List.set_cons_succ]
          refine wpAnyH_take (i := 7) (oi := ⟨some 26, _, _, _, _, _⟩) (v := undef) rfl (by kernel_rfl) (by kernel_rfl) (by kernel_rfl) (fun _ _ _ h => h) (Or.inr ⟨by rfl, rfl⟩) (by assumption) ?_
          try simp only [Act.put, List.setIfInBounds_toArray, List.set_cons_zero, List.set_cons_succ]
          refine wpAnyH_take (i := 8) (oi := ⟨some 27, _, _, _, _, _⟩) (v := undef) rfl (by kernel_rfl) (by kernel_rfl) (by kernel_rfl) (fun _ _ _ h => h) (Or.inr ⟨by rfl, rfl⟩) (by assumption) ?_
          try simp only [Act.put, List.setIfInBounds_toArray, List.set_cons_zero, List.set_cons_succ]
          refine wpAnyH_take (i := 9) (oi := ⟨some 28, _, _, _, _, _⟩) (v := undef) rfl (by kernel_rfl) (by kernel_rfl) (by kernel_rfl) (fun _ _ _ h => h) (Or.inr ⟨by rfl, rfl⟩) (by assumption) ?_
          try simp only [Act.put, List.setIfInBounds_toArray, List.set_cons_zero, List.set_cons_succ]
          refine wpAnyH_take (i := 10) (oi := ⟨some 29, _, _, _, _, _⟩) (v := undef) rfl (by kernel_rfl) (by kernel_rfl) (by kernel_rfl) (fun _ _ _ h => h) (Or.inr ⟨by rfl, rfl⟩) (by assumption) ?_
          try simp only [Act.put, List.setIfInBounds_toArray, List.set_cons_zero, List.set_cons_succ]
          refine wpAnyH_take (i := 11) (oi := ⟨some 30, _, _, _, _, _⟩) (v := ?_) rfl (by kernel_rfl) (by kernel_rfl) (by kernel_rfl) (fun _ _ _ h => h) (Or.inl ⟨by rfl, ?_⟩) (by assumption) ?_
          rotate_left
          · (intro w9 hSw; (try dsimp only at hSw); go_simp; try with_reducible rfl)
          try simp only [Act.put, List.setIfInBounds_toArray, List.set_cons_zero, List.set_cons_succ]
          refine wpAnyH_done (by kernel_rfl) ?_ _
          obtain ⟨_, _, _, _, _, hbx⟩ := hb3S
          have HB3 := Lib.hid (HI2.out.2.below hbx)
          have HZ := Lib.hid (bt HBW.out.1 hbx)
          have HG := Lib.hid (HIW.out.give HJ.out HZ.out (Nat.le_refl wr.heap.size) HB3.out.lt)
          obtain ⟨Y, y1, y2, y3, y4⟩ := HG.out
          have HY4 := Lib.hid y4
          have HKP : Hid (pre ++ [nw] ++ emerge y (rest.drop (k + 1)) = emerge x0 rest) := Lib.hid (by rw [← HP.out, HD.out, emerge_no (fun h => HFT.out h.1), List.append_assoc]; rfl)
          obtain ⟨fn, tmps, assign, body, hy, hR⟩ := HY.out pre nw Y w3 y1 y2 ⟨_, HKP.out⟩
          have p0 : w3.cell? ⟨W.heap.size, 0, none⟩ = some (.int .u64 nw.f) := (HI2.out.1.below HJ.out hbx).now.cell 0
          have p1 : w3.cell? ⟨W.heap.size, 1, none⟩ = some (.int .u64 nw.n) := (HI2.out.1.below HJ.out hbx).now.cell 1
          have p2 : w3.cell? ⟨W.heap.size, 2, none⟩ = some (.int .i64 nw.s) := (HI2.out.1.below HJ.out hbx).now.cell 2
          have HYM := Lib.hid y3
          clear hbx hb3 y1 y2 y3 y4 a0 a1 a2 b0 b2
          gi_wp2
          refine hR.mono ?_
          rintro e W4 ⟨rfl, hJ4, hk4⟩
          have HI4 := Lib.hid (HY4.out W4 _ hJ4 hk4)
          have HB4 : Hid (Blk W4 wr.heap.size 47 #[.int .u64 y.f, .int .u64 y.n, .int .i64 y.s]) := Lib.hid ((hk4.2 _ HYM.out).trans HB3.out)
          have r0 : W4.cell? ⟨wr.heap.size, 0, none⟩ = some (.int .u64 y.f) := HB4.out.cell 0
          have r1 : W4.cell? ⟨wr.heap.size, 1, none⟩ = some (.int .u64 y.n) := HB4.out.cell 1
          have r2 : W4.cell? ⟨wr.heap.size, 2, none⟩ = some (.int .i64 y.s) := HB4.out.cell 2
          have s0 : W4.cell? ⟨W.heap.size, 0, none⟩ = some (.int .u64 nw.f) := HI4.out.now.cell 0
          have s1 : W4.cell? ⟨W.heap.size, 1, none⟩ = some (.int .u64 nw.n) := HI4.out.now.cell 1
          have s2 : W4.cell? ⟨W.heap.size, 2, none⟩ = some (.int .i64 nw.s) := HI4.out.now.cell 2
          have t0 : W4.frozen? ⟨W.heap.size, 0, none⟩ = false := HI4.out.now.frozen 0
          have t1 : W4.frozen? ⟨W.heap.size, 1, none⟩ = false := HI4.out.now.frozen 1
          have t2 : W4.frozen? ⟨W.heap.size, 2, none⟩ = false := HI4.out.now.frozen 2
          clear hJ4 hk4 p0 p1 p2
          gi_wp2
          go_roundw
          case rel => exact ⟨k + 1, y, pre ++ [nw], by omega, by go_num, HKP.out, HYO.out, HI4.out.set_ HJ.out HB.out.2.2.1 HB.out.2.2.2 [.int .u64 y.f, .int .u64 y.n, .int .i64 y.s] rfl⟩
          case measure => simp [intOf]; omega
      · have x0c : wr.cell? ⟨W.heap.size, 0, none⟩ = some (.int .u64 nw.f) := hI.now.cell 0
        have x1c : wr.cell? ⟨W.heap.size, 1, none⟩ = some (.int .u64 nw.n) := hI.now.cell 1
        have x2c : wr.cell? ⟨W.heap.size, 2, none⟩ = some (.int .i64 nw.s) := hI.now.cell 2
        obtain rfl : k = rest.length := by omega
        have he : pre ++ [nw] = emerge x0 rest := by have := HP.out; rw [List.drop_length] at this; exact this
        obtain ⟨Y, y1, y2, _⟩ := hI.ex
        obtain ⟨fn, tmps, assign, body, hy, hR⟩ := HY.out pre nw Y wr y1 y2 (by rw [he]; exact List.prefix_refl _)
        gi_wp2
        refine hR.mono ?_
        rintro e W3 ⟨rfl, hJ3, hk3⟩
        gi_wp2
        go_end0
        exact ⟨⟨_, rfl⟩, Y, by rw [← he]; exact hJ3, fun k hk => Nat.lt_of_lt_of_le (y2 k hk) hk3.1⟩

set_option maxHeartbeats 1000000 in
theorem ejoined0_in (n l B cap : Nat) (A : Option Addr) (W : World) (hB : Blk W B 22 #[.slice A 0 cap]) (R : Ending → World → Prop) (h : ∀ v, R (.returned v) W) :
    CallsIn Fence.wide n Try.prog 41 #[.func (.yield l) #[] #[], .pointer (some ⟨B, 0, none⟩)] W R := by
  have cB : W.cell? ⟨B, 0, none⟩ = some (.slice A 0 cap) := hB.cell 0
  clear hB
  refine callsIn_of_wp Try.func41 rfl trivial ?_ rfl
  simp only [Try.ntmps41, List.size_toArray, List.length_cons, List.length_nil, Nat.reduceAdd, Nat.reduceSub, Array.replicate_succ, Array.replicate_zero, List.push_toArray, List.append_toArray, List.nil_append, List.cons_append]
  gi_wp2
  exact bodyPost_ret (results_none rfl _ _ _) rfl (h _)
theorem ejoined_hands (b0 n : Nat) (hn : 1 ≤ n) (B cap : Nat) (A : Option Addr) (S : List Rn) (w : World) (hB : Blk w B 22 #[.slice A S.length cap]) (hcap : S.length ≤ cap) (hm : cap ≤ maxLen) (hA : S ≠ [] → ∃ g, A = some ⟨g, 0, none⟩) (hR : ER w A S) (hok : ∀ r ∈ S, EB r) :
    HandsE b0 n 41 #[.pointer (some ⟨B, 0, none⟩)] rv (ejoin S) (fun k => k = B ∨ (S ≠ [] ∧ ∃ o, A = some ⟨k, o, none⟩)) w := by
  intro l J X W hX hb0 hJ hY h0 hbd
  have b1 : Blk W B 22 #[.slice A S.length cap] := (hX B (.inl rfl)).2.trans hB
  cases S with
  | nil => exact ejoined0_in n l B cap A W b1 _ (fun v => ⟨⟨v, rfl⟩, X, h0, hbd⟩)
  | cons x0 rest =>
    obtain ⟨g, rfl⟩ := hA (by simp)
    have hg := hX g (.inr ⟨by simp, 0, rfl⟩)
    have hR2 : ER W (some ⟨g, 0, none⟩) (x0 :: rest) := hR.kp (fun g2 o2 e => by injection e with e; injection e with e1 _; subst e1; exact hg.2)
    exact ejoined_in b0 n l B g cap hn x0 rest (by simpa using hcap) hm J X W hb0 hJ (fun pre x Y W1 j1 j2 j3 => hY pre x Y W1 j1 j2 j3) (by simpa using b1) hR2 (hX B (.inl rfl)).1 hg.1 hbd h0 hok
theorem ejoined_enters : ∀ args w, (callFunc 41 args).run Try.prog w = .ok (.enter 41 args) w := enters_of Try.func41 (by kernel_rfl) rfl
end Go.Proofs.Ythimnpiiehggnaa
