/- The iterator slices.Backward of puts: the last one first. -/
import Derived.Test.YtiibgbdhbamajaaDLaw
namespace Go.Proofs.Ytiibgbdhbamajaa
open Go.RowKit Go.Shelf
attribute [local go_sem] Oper.semAt_some

abbrev PutN := Nat × PutL
abbrev b1 (x : PutN) : Value := .int .i64 (x.1 : Int)
abbrev b2 (x : PutN) : Value := .agg #[.int .i64 x.2.1, sv x.2.2]
/-- The last j of a cache, the last one first. -/
def backD (C : List PutL) (j : Nat) : List PutN := (List.range j).map fun t => (C.length - 1 - t, C.getD (C.length - 1 - t) (0, []))
theorem backD_more (C : List PutL) (j : Nat) : backD C (j + 1) = backD C j ++ [(C.length - 1 - j, C.getD (C.length - 1 - j) (0, []))] := by simp [backD, List.range_succ]
theorem backD_len (C : List PutL) (j : Nat) : (backD C j).length = j := by simp [backD]
theorem backD_pre (C : List PutL) (k d : Nat) : backD C k <+: backD C (k + d) := by
  induction d with
  | zero => exact List.prefix_refl _
  | succ d ih => rw [← Nat.add_assoc, backD_more]; exact ih.trans (List.prefix_append _ _)
theorem backD_pre' (C : List PutL) (k m : Nat) (h : k ≤ m) : backD C k <+: backD C m := by
  have := backD_pre C k (m - k)
  rwa [Nat.add_sub_cancel' h] at this
theorem backD_at (C : List PutL) (m : Nat) (pre : List PutN) (x : PutN) (h : (pre ++ [x]) <+: backD C m) : x = (C.length - 1 - pre.length, C.getD (C.length - 1 - pre.length) (0, [])) ∧ pre.length < m := by
  have hl := h.length_le
  rw [backD_len, List.length_append, List.length_singleton] at hl
  have hlt : pre.length < m := by omega
  refine ⟨?_, hlt⟩
  have h1 := (List.prefix_iff_eq_take.1 h)
  have h2 : (pre ++ [x])[pre.length]? = (backD C m)[pre.length]? := by
    rw [h1, List.getElem?_take]
    simp
  rw [List.getElem?_append_right (Nat.le_refl _)] at h2
  simp [backD, hlt] at h2
  exact h2

set_option maxRecDepth 100000 in
set_option maxHeartbeats 4000000 in
theorem back1_in (n : Nat) (hn : 1 ≤ n) (l Bc m cap : Nat) (A : Option Addr) (C : List PutL) (w0 : World) (hA : PR w0 A C) (hm : C.length = m) (hm2 : m ≤ 60) (J Jx : List PutN → World → Prop)
    (W : World) (hW0 : Below w0.heap.size w0 W)
    (hY : ∀ pre x W1, J pre W1 → (pre ++ [x]) <+: backD C m → YieldAt Fence.wide (n - 1) Try.prog l #[b1 x, b2 x] W1 fun e W' =>
      (e = .returned (.bool true) ∧ J (pre ++ [x]) W' ∧ KpN w0.heap.size W1 W') ∨ (e = .returned (.bool false) ∧ Jx (pre ++ [x]) W'))
    (hBc : Boxed W Bc 23 (.slice A m cap)) (h0 : J [] W) :
    CallsIn Fence.wide n Try.prog 30 #[.func (.yield l) #[] #[], .pointer (some ⟨Bc, 0, none⟩)] W fun e W' => (∃ v, e = .returned v) ∧
      (J (backD C m) W' ∨ (∃ pre, pre <+: backD C m ∧ Jx pre W')) := by
  have HA := Lib.hid hA
  have HM := Lib.hid hm
  have HBC := Lib.hid hBc
  have c0 := hBc.cell
  have HT : Hid (∀ k, backD C (k + 1) = backD C k ++ [(m - 1 - k, C.getD (m - 1 - k) (0, []))]) := Lib.hid fun k => by rw [backD_more, hm]
  have HP : Hid (∀ k, k ≤ m → backD C k <+: backD C m) := Lib.hid fun k hk => backD_pre' C k m hk
  have HZ : Hid (backD C 0 = []) := Lib.hid rfl
  clear hA hm hBc
  refine callsIn_of_wp Try.func30 rfl trivial ?_ rfl
  simp only [Try.ntmps30, List.size_toArray, List.length_cons, List.length_nil, Nat.reduceAdd, Nat.reduceSub, Array.replicate_succ, Array.replicate_zero, List.push_toArray, List.append_toArray, List.nil_append, List.cons_append]
  gi_wp2
  clear c0
  gi_loopw [3] (fun i wr => ∃ k : Nat, k ≤ m ∧ i = .int .i64 ((m : Int) - 1 - (k : Int)) ∧ Hid (J (backD C k) wr) ∧ Hid (Boxed wr Bc 23 (.slice A m cap)) ∧ Hid (Below w0.heap.size w0 wr))
    (fun i _ => (intOf i + 1).toNat)
  case atStart => exact ⟨0, Nat.zero_le _, by go_num, Lib.hid (by rw [HZ.out]; exact h0), HBC, Lib.hid hW0⟩
  case round =>
    obtain ⟨k, hk, rfl, HJ, HB1, hb⟩ := hrel
    by_cases hlt : k < m
    · obtain ⟨q, hq⟩ : ∃ q, m - 1 - k = q := ⟨_, rfl⟩
      have hq2 : q < m := by omega
      have hi : (m : Int) - 1 - (k : Int) = (q : Int) := by omega
      obtain ⟨g, off, rfl, q0, q1⟩ := (HA.out.later hb.out) q (by rw [HM.out]; exact hq2)
      have HT1 := Lib.hid (HT.out k)
      rw [hq] at HT1
      have HP1 := Lib.hid (HP.out (k + 1) (by omega))
      generalize C.getD q (0, []) = x at q0 q1 HT1
      obtain ⟨xk, xs⟩ := x
      simp only at q0 q1
      have HQ : Hid ((q : Int) - 1 = (m : Int) - 1 - ((k + 1 : Nat) : Int) ∧ 0 ≤ q) := Lib.hid ⟨by omega, by omega⟩
      rw [hi]
      clear hi hq
      have j0 : (0 : Int) ≤ (q : Int) := by omega
      have j1 : (q : Int) < (m : Int) := by omega
      have c1 := HB1.out.cell
      have hz := hb.out.size
      have HP2 : Hid (backD C k ++ [(q, (xk, xs))] <+: backD C m) := Lib.hid (HT1.out ▸ HP1.out)
      obtain ⟨fn, tmps, assign, body, hy, hR⟩ := hY (backD C k) (q, (xk, xs)) _ HJ.out HP2.out
      dsimp only [b1, b2] at hy
      have HR := Lib.hid hR
      clear hR
      gi_wp2
      refine HR.out.mono ?_
      rintro e W3 (⟨rfl, hJ3, hk3⟩ | ⟨rfl, hJx3⟩)
      · have HF : Hid (J (backD C (k + 1)) W3) := Lib.hid (by rw [HT1.out]; exact hJ3)
        have HB3 := Lib.hid (hk3.boxed (by decide) HB1.out)
        have HB5 := Lib.hid (hb.out.trans hk3.1)
        clear hJ3 hk3
        gi_wp2
        go_roundw
        case rel => exact ⟨k + 1, by omega, by rw [← HQ.out.1], HF, HB3, HB5⟩
        case measure => simp [intOf]
      · gi_wp2
        refine bodyPost_ret (results_none rfl _ _ _) rfl ?_
        exact ⟨⟨_, rfl⟩, .inr ⟨_, HP2.out, hJx3⟩⟩
    · obtain rfl : k = m := by omega
      have hi : (k : Int) - 1 - (k : Int) = -1 := by omega
      rw [hi]
      gi_wp2
      go_end0
      exact ⟨⟨_, rfl⟩, .inl HJ.out⟩

theorem back_hands (n : Nat) (hn : 1 ≤ n) (Bc m cap : Nat) (A : Option Addr) (C : List PutL) (w0 w : World) (hA : PR w0 A C) (hm : C.length = m) (hm2 : m ≤ 60) (hW0 : Below w0.heap.size w0 w)
    (hBc : Boxed w Bc 23 (.slice A m cap)) :
    HandsN b1 b2 n 30 #[.pointer (some ⟨Bc, 0, none⟩)] w0.heap.size (backD C m) w := fun l J Jx W hW _ hY h0 =>
  back1_in n hn l Bc m cap A C w0 hA hm hm2 J Jx W (bt hW0 hW) hY ((hW.block Bc hBc.lt).trans hBc) h0

set_option maxHeartbeats 1000000 in
theorem back_any (A : Option Addr) (m cap : Nat) (w : World) :
    Calls Try.prog 28 #[.slice A m cap] w fun e w' => e = .returned (.func (.func 30) #[] #[.pointer (some ⟨w.heap.size, 0, none⟩)]) ∧ w' = w.alloc (.cells #[.slice A m cap] 23) := by
  go_enter Try.func28, Try.ntmps28
  go_wp2
  go_ret
  exact ⟨rfl, rfl⟩
end Go.Proofs.Ytiibgbdhbamajaa
