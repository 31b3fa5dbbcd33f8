/- joined: what it hands on is the row of ends, merged where they meet or touch. -/
import Derived.Test.YtkaenoejfdcokaaSpansC
import Derived.Lib.Hide
namespace Go.Proofs.Ytkaenoejfdcokaa
open Go.RowKit Go.Shelf
attribute [local go_sem] Oper.semAt_some

/-- Two ends, the first of which begins no later, made one. -/
def join2 (x y : E64) : E64 := ⟨(x.1.1, max x.1.2 y.1.2), x.2.1, by have := x.2.2.1; omega, by have := x.2.2.2; have := y.2.2.2; omega⟩
/-- The ends, merged from the first on. -/
def mergeE : E64 → List E64 → List E64
  | x, [] => [x]
  | x, y :: r => if y.1.1 ≤ x.1.2 + 1 then mergeE (join2 x y) r else x :: mergeE y r
def joinE : List E64 → List E64
  | [] => []
  | x :: r => mergeE x r
theorem mergeE_ne (x : E64) (r : List E64) : 1 ≤ (mergeE x r).length := by
  induction r generalizing x with
  | nil => simp [mergeE]
  | cons y r ih =>
    unfold mergeE
    split
    · exact ih _
    · simp

set_option maxHeartbeats 400000 in
theorem reach_yes (a b c d : Int) (w : World) (hb : b ≤ 18446744073709551615) (h0 : 0 ≤ b) (h : c ≤ b + 1) :
    Calls Try.prog 47 #[.agg #[.int .u64 a, .int .u64 b], .agg #[.int .u64 c, .int .u64 d]] w fun e w' => e = .returned (.bool true) ∧ Below w.heap.size w w' := by
  by_cases hM : b = 18446744073709551615
  · subst hM
    go_enter Try.func47, Try.ntmps47
    go_wp2
    go_ret
    exact ⟨rfl, ba (ba (Below.refl _ _) _) _⟩
  · have hb' : b + 1 ≤ 18446744073709551615 := by omega
    have hq : (b == 18446744073709551615) = false := by simpa using hM
    clear hM
    go_enter Try.func47, Try.ntmps47
    go_wp2
    go_ret
    exact ⟨rfl, ba (ba (Below.refl _ _) _) _⟩
set_option maxHeartbeats 400000 in
theorem reach_no (a b c d : Int) (w : World) (h0 : 0 ≤ b) (hc : c ≤ 18446744073709551615) (h : b + 1 < c) :
    Calls Try.prog 47 #[.agg #[.int .u64 a, .int .u64 b], .agg #[.int .u64 c, .int .u64 d]] w fun e w' => e = .returned (.bool false) ∧ Below w.heap.size w w' := by
  have hb' : b + 1 ≤ 18446744073709551615 := by omega
  have hq : (b == 18446744073709551615) = false := by simp; omega
  have hd : decide (c ≤ b + 1) = false := by simp; omega
  go_enter Try.func47, Try.ntmps47
  go_wp2
  go_ret
  exact ⟨rfl, ba (ba (Below.refl _ _) _) _⟩

theorem grown_below {W W' : World} (h : Below W.heap.size W W') : W.grownBy W' none := ⟨h.os, h.tape, h.output, h.size, fun k hk _ => h.block k hk⟩
theorem grown_set (W : World) (b o : Nat) (v : Value) : W.grownBy (W.setCell ⟨b, o, none⟩ v) (some b) :=
  ⟨rfl, rfl, rfl, by simp [World.setCell], fun k _ hne => Below.heap_setCell W ⟨b, o, none⟩ v k (fun e => hne (by rw [e]))⟩
theorem AbC.below {β : Type} {B : Nat} {J : β → World → Prop} (h : AbC B J) {s : β} {W W' : World} (hs : J s W) (hb : Below W.heap.size W W') : J s W' := h s W W' none hs (grown_below hb) (fun r e => by cases e)
theorem AbC.set {β : Type} {B : Nat} {J : β → World → Prop} (h : AbC B J) {s : β} {W : World} {b o : Nat} {x y v : Value} (hs : J s W) (hb : Box2 W b 55 x y) (hB : B ≤ b) : J s (W.setCell ⟨b, o, none⟩ v) :=
  h s W _ (some b) hs (grown_set W b o v) (fun r e => by cases e; exact ⟨hB, _, _, hb⟩)
theorem Box2.set1 {W : World} {b : Nat} {t : TypeId} {x y : Value} (h : Box2 W b t x y) (v : Value) : Box2 (W.setCell ⟨b, 1, none⟩ v) b t x v := by
  have := h.lt
  unfold Box2 at h ⊢
  simp only [World.setCell, Array.getElem?_modify, h]
  simp
theorem Box2.set0 {W : World} {b : Nat} {t : TypeId} {x y : Value} (h : Box2 W b t x y) (v : Value) : Box2 (W.setCell ⟨b, 0, none⟩ v) b t v y := by
  have := h.lt
  unfold Box2 at h ⊢
  simp only [World.setCell, Array.getElem?_modify, h]
  simp
theorem Box2.frozen {W : World} {B : Nat} {t : TypeId} {x y : Value} (h : Box2 W B t x y) (o : Nat) : W.frozen? ⟨B, o, none⟩ = false := by simp [World.frozen?, show W.heap[B]? = _ from h]

theorem Box2.keptC {n₀ : Nat} {W W' : World} {B : Nat} {x y : Value} (h : Box2 W B 55 x y) (k : KpC n₀ W W') : Box2 W' B 55 x y := k.2 _ _ _ h

set_option maxRecDepth 100000 in
set_option maxHeartbeats 4000000 in
theorem joined1_in (l Bs n₀ b cap : Nat) (x0 : E64) (rest : List E64) (hcap : rest.length + 1 ≤ cap) (hm : cap ≤ maxLen) (hb : b < n₀) (J Jx : List E64 → World → Prop)
    (W : World) (hn0 : n₀ ≤ W.heap.size) (hJ : AbC W.heap.size J)
    (hY : ∀ pre x W1, J pre W1 → pre.length < (mergeE x0 rest).length → YieldAt Fence.wide 4 Try.prog l #[.agg #[.int .u64 x.1.1, .int .u64 x.1.2]] W1 fun e W' =>
      (e = .returned (.bool true) ∧ J (pre ++ [x]) W' ∧ KpC n₀ W1 W') ∨ (e = .returned (.bool false) ∧ Jx (pre ++ [x]) W'))
    (hBs : W.cell? ⟨Bs, 0, none⟩ = some (.slice (some ⟨b, 0, none⟩) (rest.length + 1) cap)) (hBn : Bs < n₀) (hc : EndsAt W b 0 (x0 :: rest)) (h0 : J [] W) :
    CallsIn Fence.wide 5 Try.prog 46 #[.func (.yield l) #[] #[], .pointer (some ⟨Bs, 0, none⟩)] W fun e W' => (∃ v, e = .returned v) ∧
      (J (mergeE x0 rest) W' ∨ ∃ pre, pre <+: mergeE x0 rest ∧ Jx pre W') := by
  obtain ⟨hc0, hc1⟩ := hc 0 (by simp)
  simp only [Nat.zero_mul, Nat.zero_add, List.getElem_cons_zero] at hc0 hc1
  have zB : Bs < W.heap.size := Nat.lt_of_lt_of_le hBn hn0
  have zb : b < W.heap.size := Nat.lt_of_lt_of_le hb hn0
  have HC : Hid (∀ k (h : k < rest.length), W.cell? ⟨b, 2 + k * 2, none⟩ = some (.int .u64 (rest[k]).1.1) ∧ W.cell? ⟨b, 2 + k * 2 + 1, none⟩ = some (.int .u64 (rest[k]).1.2)) := fun k h => by
    have := hc (k + 1) (by simpa using h)
    rw [show 0 + (k + 1) * 2 = 2 + k * 2 by omega] at this
    simpa using this
  clear hc
  have HY : Hid _ := hY
  clear hY
  unfold maxLen at hm
  refine callsIn_of_wp Try.func46 rfl trivial ?_ rfl
  simp only [Try.ntmps46, List.size_toArray, List.length_cons, List.length_nil, Nat.reduceAdd, Nat.reduceSub, Array.replicate_succ, Array.replicate_zero, List.push_toArray, List.append_toArray, List.nil_append, List.cons_append]
  have hz0 : ((rest.length : Int) + 1 == 0) = false := by simp; omega
  by_cases hc1' : cap = 1
  · have hr0 : rest.length = 0 := by omega
    gi_wp2
    have bN := Box2.new W 55 (.int .u64 x0.1.1) (.int .u64 x0.1.2)
    gi_loopw [15] (fun i wr => ∃ (k : Nat) (nw : E64) (pre : List E64), k ≤ rest.length ∧ i = .int .i64 k ∧ pre ++ mergeE nw (rest.drop k) = mergeE x0 rest ∧ J pre wr ∧ Below n₀ W wr ∧ W.heap.size < wr.heap.size ∧ Box2 wr W.heap.size 55 (.int .u64 nw.1.1) (.int .u64 nw.1.2)) (fun i _ => rest.length - (intOf i).toNat)
    case atStart => exact ⟨0, x0, [], Nat.zero_le _, rfl, rfl, hJ.below h0 ((Below.refl _ _).alloc (Nat.le_refl _) _), (Below.refl _ _).alloc hn0 _, by simp, bN⟩
    case round =>
      obtain ⟨k, nw, pre, hk, rfl, hpre, hJs, hnx, hsz, bX⟩ := hrel
      have HP := Lib.hid hpre
      clear hpre
      have x0c := bX.cell0
      have x1c := bX.cell1
      by_cases hlt : k < rest.length
      · exact absurd hlt (by omega)
      · obtain rfl : k = rest.length := by omega
        have he : pre ++ [nw] = mergeE x0 rest := by have := HP.out; rw [List.drop_length] at this; exact this
        have hlen : pre.length < (mergeE x0 rest).length := by rw [← he]; simp
        obtain ⟨fn, tmps, assign, body, hy, hR⟩ := HY.out pre nw wr hJs hlen
        gi_wp2
        refine hR.mono ?_
        rintro e W3 (⟨rfl, hJ3, hk3⟩ | ⟨rfl, hJx3⟩)
        · gi_wp2
          go_end0
          exact ⟨⟨_, rfl⟩, .inl (by rw [← he]; exact hJ3)⟩
        · gi_wp2
          go_end0
          exact ⟨⟨_, rfl⟩, .inr ⟨_, by rw [he]; exact List.prefix_refl _, hJx3⟩⟩
  · skip
    gi_wp2
    have bN := Box2.new W 55 (.int .u64 x0.1.1) (.int .u64 x0.1.2)
    gi_loopw [15] (fun i wr => ∃ (k : Nat) (nw : E64) (pre : List E64), k ≤ rest.length ∧ i = .int .i64 k ∧ pre ++ mergeE nw (rest.drop k) = mergeE x0 rest ∧ J pre wr ∧ Below n₀ W wr ∧ W.heap.size < wr.heap.size ∧ Box2 wr W.heap.size 55 (.int .u64 nw.1.1) (.int .u64 nw.1.2)) (fun i _ => rest.length - (intOf i).toNat)
    case atStart => exact ⟨0, x0, [], Nat.zero_le _, rfl, rfl, hJ.below h0 ((Below.refl _ _).alloc (Nat.le_refl _) _), (Below.refl _ _).alloc hn0 _, by simp, bN⟩
    case round =>
      obtain ⟨k, nw, pre, hk, rfl, hpre, hJs, hnx, hsz, bX⟩ := hrel
      have HP := Lib.hid hpre
      clear hpre
      have x0c := bX.cell0
      have x1c := bX.cell1
      by_cases hlt : k < rest.length
      · obtain ⟨d0, d1⟩ := HC.out k hlt
        have hcx := (hnx.cell (p := ⟨b, 2 + k * 2, none⟩) hb).trans d0
        have hcy := (hnx.cell (p := ⟨b, 2 + k * 2 + 1, none⟩) hb).trans d1
        obtain ⟨v0, v1, v2⟩ := nw.2
        obtain ⟨w0, w1, w2⟩ := (rest[k]).2
        have hD := Lib.hid (List.drop_eq_getElem_cons hlt)
        by_cases hr : (rest[k]).1.1 ≤ nw.1.2 + 1
        · have hstep : mergeE nw (rest.drop k) = mergeE (join2 nw rest[k]) (rest.drop (k + 1)) := by rw [hD.out]; exact if_pos hr
          have HS := Lib.hid hstep
          clear hstep
          gi_wp2_with fail
          refine ⟨trivial, ?_⟩
          refine (callsIn_wide.2 (reach_yes _ _ _ _ _ v2 (by omega) hr)).mono ?_
          rintro e W2 ⟨rfl, hb2⟩
          have hJ2 := hJ.below (hJ.below hJs ((Below.refl _ _).alloc (Nat.le_refl _) _)) hb2
          have bX2 := (bX.below ((Below.refl _ _).alloc (Nat.le_refl _) _)).below hb2
          have bY2 := (Box2.new wr 55 (.int .u64 (rest[k]).1.1) (.int .u64 (rest[k]).1.2)).below hb2
          have e0 := bX2.cell0
          have e1 := bX2.cell1
          have f1 := bX2.frozen 1
          have g1 := bY2.cell1
          have hnx2 : Below n₀ W W2 := (hnx.alloc (Nat.le_trans hn0 hnx.size) _).trans (hb2.mono (by have := hnx.size; simp; omega))
          have hsz2 : W.heap.size < W2.heap.size := bX2.lt
          by_cases hmx : (rest[k]).1.2 ≤ nw.1.2
          · have HM := Lib.hid (show max nw.1.2 (rest[k]).1.2 = nw.1.2 by omega)
            gi_wp2
            go_roundw
            case rel => exact ⟨k + 1, join2 nw rest[k], pre, by omega, by go_num, by rw [← HS.out]; exact HP.out, hJ.set hJ2 bX2 (Nat.le_refl _), hnx2.setCell (p := ⟨W.heap.size, 1, none⟩) hn0 _, by simpa using hsz2, by show Box2 _ _ _ (.int .u64 nw.1.1) (.int .u64 (max nw.1.2 (rest[k]).1.2)); rw [HM.out]; exact bX2.set1 _⟩
            case measure => simp [intOf]; omega
          · have HM := Lib.hid (show max nw.1.2 (rest[k]).1.2 = (rest[k]).1.2 by omega)
            gi_wp2
            go_roundw
            case rel => exact ⟨k + 1, join2 nw rest[k], pre, by omega, by go_num, by rw [← HS.out]; exact HP.out, hJ.set hJ2 bX2 (Nat.le_refl _), hnx2.setCell (p := ⟨W.heap.size, 1, none⟩) hn0 _, by simpa using hsz2, by show Box2 _ _ _ (.int .u64 nw.1.1) (.int .u64 (max nw.1.2 (rest[k]).1.2)); rw [HM.out]; exact bX2.set1 _⟩
            case measure => simp [intOf]; omega
        · have hstep : mergeE nw (rest.drop k) = nw :: mergeE rest[k] (rest.drop (k + 1)) := by rw [hD.out]; exact if_neg hr
          have HS := Lib.hid hstep
          clear hstep
          have he : (pre ++ [nw]) ++ mergeE rest[k] (rest.drop (k + 1)) = mergeE x0 rest := by rw [← HP.out, HS.out, List.append_assoc]; rfl
          have HE := Lib.hid he
          have hlen : pre.length < (mergeE x0 rest).length := by rw [← he]; simp
          clear he
          gi_wp2_with fail
          refine ⟨trivial, ?_⟩
          refine (callsIn_wide.2 (reach_no _ _ _ _ _ (by omega) (by omega) (by omega))).mono ?_
          rintro e W2 ⟨rfl, hb2⟩
          have hJ2 := hJ.below (hJ.below hJs ((Below.refl _ _).alloc (Nat.le_refl _) _)) hb2
          have bX2 := (bX.below ((Below.refl _ _).alloc (Nat.le_refl _) _)).below hb2
          have bY2 := (Box2.new wr 55 (.int .u64 (rest[k]).1.1) (.int .u64 (rest[k]).1.2)).below hb2
          have e0 := bX2.cell0
          have e1 := bX2.cell1
          have hnx2 : Below n₀ W W2 := (hnx.alloc (Nat.le_trans hn0 hnx.size) _).trans (hb2.mono (by have := hnx.size; simp; omega))
          obtain ⟨fn, tmps, assign, body, hy, hR⟩ := HY.out pre nw W2 hJ2 hlen
          gi_wp2
          refine hR.mono ?_
          rintro e W3 (⟨rfl, hJ3, hk3⟩ | ⟨rfl, hJx3⟩)
          · have bX3 := bX2.keptC hk3
            have bY3 := bY2.keptC hk3
            have p0 := bX3.cell0
            have p1 := bX3.cell1
            have q0 := bX3.frozen 0
            have q1 := bX3.frozen 1
            have r0 := bY3.cell0
            have r1 := bY3.cell1
            have hnx3 := hnx2.trans hk3.1
            have hsz3 : W.heap.size < W3.heap.size := bX3.lt
            gi_wp2
            go_roundw
            case rel => exact ⟨k + 1, rest[k], pre ++ [nw], by omega, by go_num, HE.out, hJ.set (hJ.set hJ3 bX3 (Nat.le_refl _)) (bX3.set0 _) (Nat.le_refl _), (hnx3.setCell (p := ⟨W.heap.size, 0, none⟩) hn0 _).setCell (p := ⟨W.heap.size, 1, none⟩) hn0 _, by simpa using hsz3, (bX3.set0 _).set1 _⟩
            case measure => simp [intOf]; omega
          · gi_wp2
            refine bodyPost_ret (results_none rfl _ _ _) rfl ?_
            exact ⟨⟨_, rfl⟩, .inr ⟨_, ⟨_, HE.out⟩, hJx3⟩⟩
      · obtain rfl : k = rest.length := by omega
        have he : pre ++ [nw] = mergeE x0 rest := by have := HP.out; rw [List.drop_length] at this; exact this
        have hlen : pre.length < (mergeE x0 rest).length := by rw [← he]; simp
        obtain ⟨fn, tmps, assign, body, hy, hR⟩ := HY.out pre nw wr hJs hlen
        gi_wp2
        refine hR.mono ?_
        rintro e W3 (⟨rfl, hJ3, hk3⟩ | ⟨rfl, hJx3⟩)
        · gi_wp2
          go_end0
          exact ⟨⟨_, rfl⟩, .inl (by rw [← he]; exact hJ3)⟩
        · gi_wp2
          go_end0
          exact ⟨⟨_, rfl⟩, .inr ⟨_, by rw [he]; exact List.prefix_refl _, hJx3⟩⟩
end Go.Proofs.Ytkaenoejfdcokaa
