/- The iterator kept: those of a cache whose bits are 1, in order. -/
import Derived.Test.YtiibgbdhbamajaaDLaw
import Derived.Laws.BitsLemmas
namespace Go.Proofs.Ytiibgbdhbamajaa
open Go.RowKit Go.Shelf
attribute [local go_sem] Oper.semAt_some

theorem bit_u64 (a k : Nat) (h : a < 18446744073709551616) : bits .and .u64 ((a : Int) / 2 ^ k) 1 = ((a / 2 ^ k % 2 : Nat) : Int) := by
  have h1 : ((a : Int) / 2 ^ k) = ((a / 2 ^ k : Nat) : Int) := by simp
  have h2 : a / 2 ^ k < 18446744073709551616 := Nat.lt_of_le_of_lt (Nat.div_le_self _ _) h
  have h3 := bits_and_u64_nat _ 1 h2 (by omega)
  rw [Nat.and_one_is_mod] at h3
  rw [h1]
  exact h3
abbrev p1 (x : PutL) : Value := .int .i64 x.1
abbrev p2 (x : PutL) : Value := sv x.2

set_option maxRecDepth 100000 in
set_option maxHeartbeats 4000000 in
theorem kept1_in (n : Nat) (hn : 1 ≤ n) (l Bc Bk m cap : Nat) (A : Option Addr) (C : List PutL) (K : Nat) (w0 : World) (hA : PR w0 A C) (hm : C.length = m) (hm2 : m ≤ 60) (hK : K < 18446744073709551616) (J Jx : List PutL → World → Prop)
    (W : World) (hW0 : Below w0.heap.size w0 W) (hJ : AbN J)
    (hY : ∀ pre x W1, J pre W1 → (pre ++ [x]) <+: keptD K C → YieldAt Fence.wide (n - 1) Try.prog l #[p1 x, p2 x] W1 fun e W' =>
      (e = .returned (.bool true) ∧ J (pre ++ [x]) W' ∧ KpN w0.heap.size W1 W') ∨ (e = .returned (.bool false) ∧ Jx (pre ++ [x]) W'))
    (hBc : Boxed W Bc 23 (.slice A m cap)) (hBk : Boxed W Bk 41 (.int .u64 (K : Int))) (h0 : J [] W) :
    CallsIn Fence.wide n Try.prog 31 #[.func (.yield l) #[] #[], .pointer (some ⟨Bc, 0, none⟩), .pointer (some ⟨Bk, 0, none⟩)] W fun e W' => (∃ v, e = .returned v) ∧
      (J (keptD K C) W' ∨ (∃ pre, pre <+: keptD K C ∧ Jx pre W')) := by
  have HA := Lib.hid hA
  have HM := Lib.hid hm
  have HBC := Lib.hid hBc
  have HBK := Lib.hid hBk
  have c0 := hBc.cell
  have HT : Hid (∀ k, k < m → keptD K (C.take (k + 1)) = keptD K (C.take k) ++ (if K / 2 ^ k % 2 = 1 then [C.getD k (0, [])] else [])) := Lib.hid fun k hk => keptD_take C K k (by rw [hm]; exact hk)
  have HP : Hid (∀ k, k < m → keptD K (C.take (k + 1)) <+: keptD K C) := Lib.hid fun k hk => keptD_pre' C K (k + 1) (by omega)
  have HE : Hid (keptD K (C.take m) = keptD K C) := Lib.hid (by rw [← hm, List.take_length])
  have HZ : Hid (keptD K (C.take 0) = []) := Lib.hid rfl
  clear hA hm hBc hBk
  refine callsIn_of_wp Try.func31 rfl trivial ?_ rfl
  simp only [Try.ntmps31, List.size_toArray, List.length_cons, List.length_nil, Nat.reduceAdd, Nat.reduceSub, Array.replicate_succ, Array.replicate_zero, List.push_toArray, List.append_toArray, List.nil_append, List.cons_append]
  gi_wp2
  clear c0
  gi_loopw [8] (fun i wr => ∃ k : Nat, k ≤ m ∧ i = .int .i64 k ∧ Hid (J (keptD K (C.take k)) wr) ∧ Hid (Boxed wr Bc 23 (.slice A m cap)) ∧ Hid (Boxed wr Bk 41 (.int .u64 (K : Int))) ∧ Hid (Below w0.heap.size w0 wr))
    (fun i _ => m - (intOf i).toNat)
  case atStart => exact ⟨0, Nat.zero_le _, rfl, Lib.hid (by rw [HZ.out]; exact h0), HBC, HBK, Lib.hid hW0⟩
  case round =>
    obtain ⟨k, hk, rfl, HJ, HB1, HB2, hb⟩ := hrel
    by_cases hlt : k < m
    · obtain ⟨g, off, rfl, q0, q1⟩ := (HA.out.later hb.out) k (by rw [HM.out]; exact hlt)
      have HT1 := Lib.hid (HT.out k hlt)
      have HP1 := Lib.hid (HP.out k hlt)
      generalize C.getD k (0, []) = x at q0 q1 HT1
      obtain ⟨xk, xs⟩ := x
      simp only at q0 q1
      have j0 : (0 : Int) ≤ (k : Int) := by omega
      have j1 : (k : Int) < (m : Int) := by omega
      have c1 := (HB2.out.alloc (.cells #[.int .i64 xk, sv xs] 47)).cell
      have HBA := Lib.hid (HB1.out.alloc (.cells #[.int .i64 xk, sv xs] 47))
      have HBB := Lib.hid (HB2.out.alloc (.cells #[.int .i64 xk, sv xs] 47))
      have HJA : Hid (J (keptD K (C.take k)) (wr.alloc (.cells #[.int .i64 xk, sv xs] 47))) := Lib.hid (hJ _ _ _ HJ.out (ba (Below.refl _ _) _))
      have hz := hb.out.size
      have hbA : Hid (Below w0.heap.size w0 (wr.alloc (.cells #[.int .i64 xk, sv xs] 47))) := Lib.hid (ba hb.out _)
      have HBIT := bit_u64 K k hK
      by_cases hbit : K / 2 ^ k % 2 = 1
      · have HN : Hid (keptD K (C.take (k + 1)) = keptD K (C.take k) ++ [(xk, xs)]) := Lib.hid (by rw [HT1.out, if_pos hbit])
        rw [hbit] at HBIT
        have HP2 : Hid (keptD K (C.take k) ++ [(xk, xs)] <+: keptD K C) := Lib.hid (HN.out ▸ HP1.out)
        obtain ⟨fn, tmps, assign, body, hy, hR⟩ := hY (keptD K (C.take k)) (xk, xs) _ HJA.out HP2.out
        dsimp only [p1, p2] at hy
        have HR := Lib.hid hR
        clear hbit HT1 hR
        gi_wp2
        refine HR.out.mono ?_
        rintro e W3 (⟨rfl, hJ3, hk3⟩ | ⟨rfl, hJx3⟩)
        · have HF : Hid (J (keptD K (C.take (k + 1))) W3) := Lib.hid (by rw [HN.out]; exact hJ3)
          have HB3 := Lib.hid (hk3.boxed (by decide) HBA.out)
          have HB4 := Lib.hid (hk3.boxed (by decide) HBB.out)
          have HB5 := Lib.hid (hbA.out.trans hk3.1)
          clear hJ3 hk3
          gi_wp2
          go_roundw
          case rel => exact ⟨k + 1, by omega, by go_num, HF, HB3, HB4, HB5⟩
          case measure => simp [intOf]; omega
        · gi_wp2
          refine bodyPost_ret (results_none rfl _ _ _) rfl ?_
          exact ⟨⟨_, rfl⟩, .inr ⟨_, HP2.out, hJx3⟩⟩
      · have HN : Hid (keptD K (C.take (k + 1)) = keptD K (C.take k)) := Lib.hid (by rw [HT1.out, if_neg hbit, List.append_nil])
        have h0 : K / 2 ^ k % 2 = 0 := by omega
        rw [h0] at HBIT
        have HF : Hid (J (keptD K (C.take (k + 1))) (wr.alloc (.cells #[.int .i64 xk, sv xs] 47))) := Lib.hid (by rw [HN.out]; exact HJA.out)
        clear hbit HT1 h0
        gi_wp2
        refine ⟨(fun f hf => by cases hf), ?_⟩
        gi_wp2
        go_roundw
        case rel => exact ⟨k + 1, by omega, by go_num, HF, HBA, HBB, hbA⟩
        case measure => simp [intOf]; omega
    · obtain rfl : k = m := by omega
      have HJ2 := Lib.hid (HE.out ▸ HJ.out)
      gi_wp2
      go_end0
      exact ⟨⟨_, rfl⟩, .inl HJ2.out⟩

theorem kept_hands (n : Nat) (hn : 1 ≤ n) (Bc Bk m cap : Nat) (A : Option Addr) (C : List PutL) (K : Nat) (w0 w : World) (hA : PR w0 A C) (hm : C.length = m) (hm2 : m ≤ 60) (hK : K < 18446744073709551616) (hW0 : Below w0.heap.size w0 w)
    (hBc : Boxed w Bc 23 (.slice A m cap)) (hBk : Boxed w Bk 41 (.int .u64 (K : Int))) :
    HandsN p1 p2 n 31 #[.pointer (some ⟨Bc, 0, none⟩), .pointer (some ⟨Bk, 0, none⟩)] w0.heap.size (keptD K C) w := fun l J Jx W hW hJ hY h0 =>
  kept1_in n hn l Bc Bk m cap A C K w0 hA hm hm2 hK J Jx W (bt hW0 hW) hJ hY ((hW.block Bc hBc.lt).trans hBc) ((hW.block Bk hBk.lt).trans hBk) h0

set_option maxHeartbeats 1000000 in
theorem kept_any (A : Option Addr) (m cap : Nat) (K : Nat) (w : World) :
    Calls Try.prog 29 #[.slice A m cap, .int .u64 (K : Int)] w fun e w' => e = .returned (.func (.func 31) #[] #[.pointer (some ⟨w.heap.size, 0, none⟩), .pointer (some ⟨w.heap.size + 1, 0, none⟩)]) ∧ w' = (w.alloc (.cells #[.slice A m cap] 23)).alloc (.cells #[.int .u64 (K : Int)] 41) := by
  go_enter Try.func29, Try.ntmps29
  go_wp2
  go_ret
  exact ⟨rfl, rfl⟩
end Go.Proofs.Ytiibgbdhbamajaa
