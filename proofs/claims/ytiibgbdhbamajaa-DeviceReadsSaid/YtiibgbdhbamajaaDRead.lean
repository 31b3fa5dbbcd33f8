/- The contract of Read, at a sector that is there. -/
import Derived.Test.YtiibgbdhbamajaaDReadA
namespace Go.Proofs.Ytiibgbdhbamajaa
open Go.RowKit Go.Shelf
attribute [local go_sem] Oper.semAt_some

/-- Between two rounds. -/
def ReadI (w : World) (A B : Option Addr) (n c m d k : Nat) (pre : List PutN) (W : World) : Prop :=
  (Hid (∀ x ∈ pre, x.2.1 ≠ (k : Int)) ∧ Hid (Blk W w.heap.size 25 #[.slice A n c, .slice B m d]) ∧ Hid (Blk W (w.heap.size + 1) 3 #[.int .i64 (k : Int)]) ∧ Hid (Blk W (w.heap.size + 2) 9 #[.string ⟨#[]⟩]) ∧ Hid (Blk W (w.heap.size + 3) 27 #[.int .i64 0])) ∧ Hid (Below w.heap.size w W)
/-- A round has left. -/
def ReadX (w : World) (k : Nat) (cd : Code) (pre : List PutN) (W : World) : Prop :=
  ∃ pre0 x, cd = .ret ∧ pre = pre0 ++ [x] ∧ (∀ y ∈ pre0, y.2.1 ≠ (k : Int)) ∧ x.2.1 = (k : Int) ∧ (Hid (Blk W (w.heap.size + 2) 9 #[sv x.2.2]) ∧ Hid (Blk W (w.heap.size + 3) 27 #[.int .i64 0])) ∧ Hid (Below w.heap.size w W)
theorem ReadI_kept (w : World) (A B : Option Addr) (n c m d k : Nat) {Bb : Nat} (hB : w.heap.size ≤ Bb) : KeptN Bb (ReadI w A B n c m d k) := by
  rintro s W W' row ⟨⟨h0, h1, h2, h3, h4⟩, h6⟩ hg hr
  exact ⟨⟨h0, Lib.hid (hr.blk hg h1.out), Lib.hid (hr.blk hg h2.out), Lib.hid (hr.blk hg h3.out), Lib.hid (hr.blk hg h4.out)⟩, Lib.hid (h6.out.grown hg h6.out.size (fun k e => Nat.le_trans hB (hr k e).1))⟩
theorem ReadX_kept (w : World) (k : Nat) {Bb : Nat} (hB : w.heap.size ≤ Bb) (cd : Code) : KeptN Bb (ReadX w k cd) := by
  rintro s W W' row ⟨pre0, x, e1, e2, e3, e4, ⟨h3, h4⟩, h6⟩ hg hr
  exact ⟨pre0, x, e1, e2, e3, e4, ⟨Lib.hid (hr.blk hg h3.out), Lib.hid (hr.blk hg h4.out)⟩, Lib.hid (h6.out.grown hg h6.out.size (fun k e => Nat.le_trans hB (hr k e).1))⟩
theorem blk_putObj {W : World} {g D : Nat} {t : TypeId} {cs : Array Value} {o o' : Obj} (h : Blk W g t cs) (hD : W.heap[D]? = some o) (ho : o.isCells = false) : Blk (W.putObj D o') g t cs := by
  refine (World.putObj_heap_other (fun e => ?_)).trans h
  subst e
  rw [show W.heap[g]? = _ from h] at hD
  cases hD; cases ho
/-- What was found from behind is what is read. -/
theorem back_found (S : List (List UInt8)) (C : List PutL) (k : Nat) (pre0 : List PutN) (x : PutN) (hp : (pre0 ++ [x]) <+: backD C C.length) (h0 : ∀ y ∈ pre0, y.2.1 ≠ (k : Int)) (hx : x.2.1 = (k : Int)) : readD S C k = x.2.2 := by
  obtain ⟨hxe, hlt⟩ := backD_at C _ pre0 x hp
  have hpre : pre0 = backD C pre0.length := by
    have h1 := (List.prefix_append pre0 [x]).trans hp
    have h2 := (backD_pre' C pre0.length C.length (by omega))
    exact List.IsPrefix.eq_of_length (List.prefix_of_prefix_length_le h1 h2 (by rw [backD_len]; exact Nat.le_refl _)) (by rw [backD_len])
  subst hxe
  refine readD_last S C k (C.length - 1 - pre0.length) (by omega) hx fun j hj hj2 => ?_
  have hin : ((j, C.getD j (0, [])) : PutN) ∈ pre0 := by
    rw [hpre, backD]
    refine List.mem_map.2 ⟨C.length - 1 - j, List.mem_range.2 (by omega), ?_⟩
    rw [show C.length - 1 - (C.length - 1 - j) = j by omega]
  exact h0 _ hin
theorem back_none (S : List (List UInt8)) (C : List PutL) (k : Nat) (h0 : ∀ y ∈ backD C C.length, y.2.1 ≠ (k : Int)) : readD S C k = S.getD k [] := by
  refine readD_not S C k fun j hj => ?_
  have hin : ((j, C.getD j (0, [])) : PutN) ∈ backD C C.length := by
    rw [backD]
    refine List.mem_map.2 ⟨C.length - 1 - j, List.mem_range.2 (by omega), ?_⟩
    rw [show C.length - 1 - (C.length - 1 - j) = j by omega]
  exact h0 _ hin

set_option maxRecDepth 100000 in
set_option maxHeartbeats 4000000 in
theorem read_yes (A B : Option Addr) (c d n m : Nat) (S : List (List UInt8)) (C : List PutL) (k : Nat) (w : World) (hA : SR w A S) (hB : PR w B C) (hn : S.length = n) (hm : C.length = m) (hr : rightB S C = true) (hk : k < n) :
    Calls Try.prog 15 #[dv A n c B m d, .int .i64 (k : Int)] w fun e w' => e = .returned (.tuple #[sv (readD S C k), .int .i64 0]) ∧ Below w.heap.size w w' := by
  obtain ⟨s1, s2, s3, _, _⟩ := rightB_yes hr
  rw [hn] at s1 s2
  rw [hm] at s3
  have HR := Lib.hid (fun W (hb : Below w.heap.size w W) => right_any A B c d n m S C W (hA.later hb) (hB.later hb) hn hm)
  rw [hr] at HR
  have HH := Lib.hid (fun W => has_any A B n c m d (k : Int) W)
  rw [(hasB_iff n (k : Int)).2 ⟨by omega, by omega⟩] at HH
  have HF : Hid (∀ pre0 x, (pre0 ++ [x]) <+: backD C m → (∀ y ∈ pre0, y.2.1 ≠ (k : Int)) → x.2.1 = (k : Int) → readD S C k = x.2.2) := Lib.hid fun pre0 x hp => back_found S C k pre0 x (by rw [hm]; exact hp)
  have HE : Hid ((∀ y ∈ backD C m, y.2.1 ≠ (k : Int)) → readD S C k = S.getD k []) := Lib.hid (by rw [← hm]; exact back_none S C k)
  obtain ⟨g0, off0, hA0, s0⟩ := hA k (by omega)
  subst hA0
  have hB0 : Below w.heap.size w ((((w.alloc (.cells #[.slice (some ⟨g0, off0, none⟩) n c, .slice B m d] 25)).alloc (.cells #[.int .i64 (k : Int)] 3)).alloc (.cells #[.string ⟨#[]⟩] 9)).alloc (.cells #[.int .i64 0] 27)) := ba (ba (ba (ba (Below.refl _ _) _) _) _) _
  have k0 : Blk ((((w.alloc (.cells #[.slice (some ⟨g0, off0, none⟩) n c, .slice B m d] 25)).alloc (.cells #[.int .i64 (k : Int)] 3)).alloc (.cells #[.string ⟨#[]⟩] 9)).alloc (.cells #[.int .i64 0] 27)) w.heap.size 25 #[.slice (some ⟨g0, off0, none⟩) n c, .slice B m d] := (((Blk.new w _ _).alloc _).alloc _).alloc _
  have k1 : Blk ((((w.alloc (.cells #[.slice (some ⟨g0, off0, none⟩) n c, .slice B m d] 25)).alloc (.cells #[.int .i64 (k : Int)] 3)).alloc (.cells #[.string ⟨#[]⟩] 9)).alloc (.cells #[.int .i64 0] 27)) (w.heap.size + 1) 3 #[.int .i64 (k : Int)] := ((Blk.newAt (by simp) _ _).alloc _).alloc _
  have k2 : Blk ((((w.alloc (.cells #[.slice (some ⟨g0, off0, none⟩) n c, .slice B m d] 25)).alloc (.cells #[.int .i64 (k : Int)] 3)).alloc (.cells #[.string ⟨#[]⟩] 9)).alloc (.cells #[.int .i64 0] 27)) (w.heap.size + 2) 9 #[.string ⟨#[]⟩] := (Blk.newAt (by simp) _ _).alloc _
  have k3 : Blk ((((w.alloc (.cells #[.slice (some ⟨g0, off0, none⟩) n c, .slice B m d] 25)).alloc (.cells #[.int .i64 (k : Int)] 3)).alloc (.cells #[.string ⟨#[]⟩] 9)).alloc (.cells #[.int .i64 0] 27)) (w.heap.size + 3) 27 #[.int .i64 0] := Blk.newAt (by simp) _ _
  have hz : ((((w.alloc (.cells #[.slice (some ⟨g0, off0, none⟩) n c, .slice B m d] 25)).alloc (.cells #[.int .i64 (k : Int)] 3)).alloc (.cells #[.string ⟨#[]⟩] 9)).alloc (.cells #[.int .i64 0] 27)).heap.size = w.heap.size + 4 := by simp
  generalize readD S C k = R at HF HE ⊢
  have hs0 := s0
  generalize S.getD k [] = x0 at s0 hs0 HE
  clear hA hn
  refine (callsIn_wide (n := 6)).1 ?_
  refine callsIn_of_wp_marks Try.func15 rfl trivial ?_ rfl
  simp only [Try.ntmps15, List.size_toArray, List.length_cons, List.length_nil, Nat.reduceAdd, Nat.reduceSub, Array.replicate_succ, Array.replicate_zero, List.push_toArray, List.append_toArray, List.nil_append, List.cons_append]
  gi_wp2_with fail
  refine ⟨trivial, ?_⟩
  refine (callsIn_wide.2 (HR.out _ hB0)).mono ?_
  rintro e w1 ⟨rfl, hb1⟩
  obtain ⟨q0, q1, _, _⟩ := dcells (k0.below hb1)
  have c1 := (k1.below hb1).cell 0
  simp only [List.getElem?_toArray, List.getElem?_cons_zero] at c1
  gi_wp2_with fail
  refine ⟨trivial, ?_⟩
  refine (callsIn_wide.2 (HH.out _)).mono ?_
  rintro e w2 ⟨rfl, hb2⟩
  have K0 := Lib.hid ((k0.below hb1).below hb2)
  have K1 := Lib.hid ((k1.below hb1).below hb2)
  have K2 := Lib.hid ((k2.below hb1).below hb2)
  have K3 := Lib.hid ((k3.below hb1).below hb2)
  have HB1 := Lib.hid (bt (bt hB0 hb1) hb2)
  have z2 : w.heap.size + 4 ≤ w2.heap.size := by have := hb1.size; have := hb2.size; omega
  clear q0 q1 c1 k0 k1 k2 k3 hB0 hb1 hb2 hz
  obtain ⟨q0, q1, _, _⟩ := dcells K0.out
  gi_wp2_with fail
  refine ⟨trivial, ?_⟩
  refine (callsIn_wide.2 (back_any B m d _)).mono ?_
  rintro e w3 ⟨rfl, rfl⟩
  have K4 := Lib.hid (K0.out.alloc (.cells #[.slice B m d] 23))
  have K5 := Lib.hid (K1.out.alloc (.cells #[.slice B m d] 23))
  have K6 := Lib.hid (K2.out.alloc (.cells #[.slice B m d] 23))
  have K7 := Lib.hid (K3.out.alloc (.cells #[.slice B m d] 23))
  have K8 : Boxed (w2.alloc (.cells #[.slice B m d] 23)) w2.heap.size 23 (.slice B m d) := Blk.new w2 _ _
  have HB3 : Hid (Below w.heap.size w (w2.alloc (.cells #[.slice B m d] 23))) := Lib.hid (ba HB1.out _)
  have z4 : (w2.alloc (.cells #[.slice B m d] 23)).heap.size = w2.heap.size + 1 := by simp
  generalize w2.alloc (.cells #[.slice B m d] 23) = W0 at K4 K5 K6 K7 K8 HB3 z4 ⊢
  obtain ⟨G, hG⟩ : ∃ G, w2.heap.size = G := ⟨_, rfl⟩
  rw [hG] at K8 z2 z4 ⊢
  clear hG q0 q1 K0 K1 K2 K3 HB1
  have eg : ∀ args w, (callFunc 30 args).run Try.prog w = .ok (.enter 30 args) w := enters_of Try.func30 (by kernel_rfl) rfl
  have HHA := back_hands 5 (by omega) G m d B C w W0 hB hm s3 HB3.out K8
  clear hB hm hr HR HH K8
  generalize backD C m = zs at HF HE HHA
  gi_wp2_with fail
  refine range_new (e1 := b1) (e2 := b2) (n := 6) (w0 := W0) (by omega) (gf := 30) (lb := #[.pointer (some ⟨G, 0, none⟩)]) rfl eg (n₀ := w.heap.size) (by omega) HHA (Below.refl _ _) (ReadI w (some ⟨g0, off0, none⟩) B n c m d k) (ReadX w k) (ReadI_kept w _ _ _ _ _ _ _ (by omega)) (ReadX_kept w k (by omega)) ⟨⟨Lib.hid (fun x hx => by cases hx), K4, K5, K6, K7⟩, HB3⟩
    (fun x a' W => ∃ Bx, Hid (Blk W Bx 47 #[.int .i64 x.2.1, sv x.2.2]) ∧ w.heap.size + 3 < Bx ∧ a' = { tmps := #[dv (some ⟨g0, off0, none⟩) n c B m d, .int .i64 (k : Int), .pointer (some ⟨w.heap.size, 0, none⟩), .pointer (some ⟨w.heap.size + 1, 0, none⟩), .pointer (some ⟨w.heap.size + 2, 0, none⟩), .pointer (some ⟨w.heap.size + 3, 0, none⟩), undef, .pointer (some ⟨Bx, 0, none⟩), dv (some ⟨g0, off0, none⟩) n c B m d, .bool true, .bool false, dv (some ⟨g0, off0, none⟩) n c B m d, .int .i64 (k : Int), .bool true, .bool false, .pointer (some ⟨w.heap.size, 1, none⟩), .slice B m d, .func (.func 30) #[] #[.pointer (some ⟨G, 0, none⟩)], .int .i64 (x.1 : Int), .agg #[.int .i64 x.2.1, sv x.2.2], undef, undef, undef, undef, undef, undef, undef, undef, undef, undef, undef], defers := [] })
    (fun x a' Y l o o' hs hl ho hc => by
      obtain ⟨Bx, h1, h2⟩ := hs
      exact ⟨Bx, Lib.hid (blk_putObj h1.out ho hc), h2⟩)
    ?assign ?body ?done ?stop
  case assign =>
    rintro l pre x W Kc hI hKc
    have hz := hI.2.out.size
    have hq := hI.1.2.2.2.2.out.lt
    have HI2 := Lib.hid (KeptN.alloc (ReadI_kept w (some ⟨g0, off0, none⟩) B n c m d k (Nat.le_refl _)) (.cells #[.int .i64 x.2.1, sv x.2.2] 47) hI)
    clear hI
    gi_wp2
    exact hKc _ _ ((KeepsOthers.alloc _ _).from _) (KpN.of_below (ba (Below.refl _ _) _) hz) HI2.out ⟨W.heap.size, Lib.hid (Blk.new W _ _), hq, rfl⟩
  case body =>
    rintro l pre x a' W hl ⟨⟨h0, h1, h2, h3, h4⟩, hB1⟩ ⟨Bx, hX, hBx, rfl⟩ hpre
    obtain ⟨xi, xk, xs⟩ := x
    have cx0 := hX.out.cell 0
    have cx1 := hX.out.cell 1
    have ck := h2.out.cell 0
    have cs := h3.out.cell 0
    have fs := h3.out.frozen 0
    have ce := h4.out.cell 0
    have fe := h4.out.frozen 0
    simp only [List.getElem?_toArray, List.getElem?_cons_zero, List.getElem?_cons_succ] at cx0 cx1 ck cs ce
    clear hpre K4 K5 K6 K7
    by_cases hx : xk = (k : Int)
    · subst hx
      gi_wp2
      have L3 := (h3.out.set_ 0 (sv xs)).far (p := ⟨w.heap.size + 3, 0, none⟩) (by simp) (.int .i64 0)
      have L4 := (h4.out.far (p := ⟨w.heap.size + 2, 0, none⟩) (by simp) (sv xs)).set_ 0 (.int .i64 0)
      exact ⟨((KeepsOthers.setCell _ _ _).trans (KeepsOthers.setCell _ _ _)).from _, pre, (xi, (k : Int), xs), rfl, rfl, h0.out, rfl, ⟨Lib.hid L3, Lib.hid L4⟩, Lib.hid (bs (bs hB1.out (by omega) _) (by omega) _)⟩
    · have hx2 : (xk == (k : Int)) = false := by simpa using hx
      have HH0 : Hid (∀ y ∈ pre ++ [(xi, (xk, xs))], y.2.1 ≠ (k : Int)) := Lib.hid (fun y hy => by
        rcases List.mem_append.1 hy with h | h
        · exact h0.out y h
        · rw [List.mem_singleton.1 h]; exact hx)
      clear hx
      gi_wp2
      exact ⟨KeepsFrom.refl _ _, KpN.refl _ _, ⟨HH0, h1, h2, h3, h4⟩, hB1⟩
  case done =>
    rintro D W hD ⟨⟨h0, h1, h2, h3, h4⟩, hB1⟩ hKd
    obtain ⟨q0, q1, q2, q3⟩ := dcells h1.out
    have hRe := HE.out h0.out
    have ck := h2.out.cell 0
    have cs := h3.out.cell 0
    have fs := h3.out.frozen 0
    have ce := h4.out.cell 0
    have fe := h4.out.frozen 0
    have cc := cell_later hB1.out hs0
    simp only [List.getElem?_toArray, List.getElem?_cons_zero] at ck cs ce
    have i0 : (0 : Int) ≤ (k : Int) := by omega
    have i1 : (k : Int) < (n : Int) := by omega
    rw [← hRe] at cc
    clear hRe
    gi_wp2
    have L3 := (h3.out.set_ 0 (sv R)).far (p := ⟨w.heap.size + 3, 0, none⟩) (by simp) (.int .i64 0)
    have L4 := (h4.out.far (p := ⟨w.heap.size + 2, 0, none⟩) (by simp) (sv R)).set_ 0 (.int .i64 0)
    have B2 := bs (bs hB1.out (b := w.heap.size + 2) (o := 0) (by omega) (sv R)) (b := w.heap.size + 3) (o := 0) (by omega) (.int .i64 0)
    have hKn := (Below.heap_setCell (W.setCell ⟨w.heap.size + 2, 0, none⟩ (sv R)) ⟨w.heap.size + 3, 0, none⟩ (.int .i64 0) D (by simp; omega)).trans ((Below.heap_setCell W ⟨w.heap.size + 2, 0, none⟩ (sv R) D (by simp; omega)).trans hKd)
    show bodyPostM _ _ _ _ _ _ _ ((W.setCell ⟨w.heap.size + 2, 0, none⟩ (sv R)).setCell ⟨w.heap.size + 3, 0, none⟩ (.int .i64 0))
    generalize (W.setCell ⟨w.heap.size + 2, 0, none⟩ (sv R)).setCell ⟨w.heap.size + 3, 0, none⟩ (.int .i64 0) = W2 at L3 L4 B2 hKn ⊢
    refine ⟨by simp, .inl ⟨_, _, rfl, run_takeDeferred hKn, ?_⟩⟩
    refine ⟨.tuple #[sv R, .int .i64 0], read_result (blk_putObj L3 hKn rfl) (blk_putObj L4 hKn rfl), rfl, ?_⟩
    exact B2.grown (grownBy_putObj' W2 D _) B2.size (fun k e => by cases e; omega)
  case stop =>
    rintro D cd pre W hD hp ⟨pre0, x, rfl, rfl, e3, e4, ⟨h3, h4⟩, hB1⟩ hKd
    have hRe := HF.out pre0 x hp e3 e4
    gi_wp2
    refine ⟨by simp, .inl ⟨_, _, rfl, run_takeDeferred hKd, ?_⟩⟩
    refine ⟨.tuple #[sv x.2.2, .int .i64 0], read_result (blk_putObj h3.out hKd rfl) (blk_putObj h4.out hKd rfl), by rw [hRe], ?_⟩
    exact hB1.out.grown (grownBy_putObj' W D _) hB1.out.size (fun k e => by cases e; omega)
end Go.Proofs.Ytiibgbdhbamajaa
