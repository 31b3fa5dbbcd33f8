/- The iterator turned: the slots that it hands on. -/
import Derived.Test.YtnehodipblabbaaQLaw
import Derived.Test.YtnehodipblabbaaQSlot
namespace Go.Proofs.Ytnehodipblabbaa
open Go.RowKit Go.Shelf
attribute [local go_sem] Oper.semAt_some

/-- The slots of the texts from one on, so many. -/
def qturn (n f first k : Nat) : List Nat := (List.range k).map fun t => qs n f (first + t)
theorem qturn_more (n f first k : Nat) : qturn n f first (k + 1) = qturn n f first k ++ [qs n f (first + k)] := by simp [qturn, List.range_succ]
theorem qturn_len (n f first k : Nat) : (qturn n f first k).length = k := by simp [qturn]
theorem qturn_pre (n f first k d : Nat) : qturn n f first k <+: qturn n f first (k + d) := by
  induction d with
  | zero => exact List.prefix_refl _
  | succ d ih => rw [← Nat.add_assoc, qturn_more]; exact ih.trans (List.prefix_append _ _)
theorem qturn_pre' (n f first k m : Nat) (h : k ≤ m) : qturn n f first k <+: qturn n f first m := by
  have := qturn_pre n f first k (m - k)
  rwa [Nat.add_sub_cancel' h] at this
theorem qturn_is (n f first m : Nat) (pre : List Nat) (h : pre <+: qturn n f first m) : pre.length ≤ m ∧ pre = qturn n f first pre.length := by
  have hl := h.length_le
  rw [qturn_len] at hl
  have h2 := qturn_pre' n f first pre.length m hl
  exact ⟨hl, List.IsPrefix.eq_of_length (List.prefix_of_prefix_length_le h h2 (by rw [qturn_len]; exact Nat.le_refl _)) (by rw [qturn_len])⟩
theorem qturn_at (n f first m : Nat) (pre : List Nat) (x : Nat) (h : (pre ++ [x]) <+: qturn n f first m) : pre.length < m ∧ pre = qturn n f first pre.length ∧ x = qs n f (first + pre.length) := by
  obtain ⟨h1, h2⟩ := qturn_is n f first m _ h
  rw [List.length_append, List.length_singleton] at h1 h2
  rw [qturn_more] at h2
  obtain ⟨h3, h4⟩ := List.append_inj' h2 rfl
  exact ⟨by omega, h3, by simpa using h4⟩

theorem boxed_below {w w' : World} {g : Nat} {t : TypeId} {v : Value} (h : Boxed w g t v) (hb : Below w.heap.size w w') : Boxed w' g t v := (hb.block g h.lt).trans h
abbrev qe (x : Nat) : Value := .int .i64 (x : Int)

set_option maxRecDepth 100000 in
set_option maxHeartbeats 4000000 in
theorem turn_in (N : Nat) (hN : 1 ≤ N) (l Bf Bl Br n c f first k : Nat) (m : Int) (A : Option Addr) (w0 : World) (hn : 1 ≤ n) (hn2 : n ≤ 70) (hf : f ≤ 70) (hk : first + k ≤ 70) (J Jx : List Nat → World → Prop)
    (W : World) (hAb : AbQ J)
    (hY : ∀ pre x W1, J pre W1 → (pre ++ [x]) <+: qturn n f first k → YieldAt Fence.wide (N - 1) Try.prog l #[qe x] W1 fun e W' =>
      (e = .returned (.bool true) ∧ J (pre ++ [x]) W' ∧ KpQ w0.heap.size W1 W') ∨ (e = .returned (.bool false) ∧ Jx (pre ++ [x]) W'))
    (hB1 : Boxed W Bf 3 (.int .i64 (first : Int))) (hB2 : Boxed W Bl 3 (.int .i64 ((first + k : Nat) : Int))) (hB3 : Blk W Br 24 (qcs A n c (f : Int) m)) (h0 : J [] W) :
    CallsIn Fence.wide N Try.prog 27 #[.func (.yield l) #[] #[], .pointer (some ⟨Bf, 0, none⟩), .pointer (some ⟨Bl, 0, none⟩), .pointer (some ⟨Br, 0, none⟩)] W fun e W' => (∃ v, e = .returned v) ∧
      (J (qturn n f first k) W' ∨ (∃ pre, pre <+: qturn n f first k ∧ Jx pre W')) := by
  have HBA := Lib.hid (And.intro hB2 hB3)
  have c0 := hB1.cell
  have HAb := Lib.hid hAb
  have HT : Hid (∀ j, qturn n f first (j + 1) = qturn n f first j ++ [qs n f (first + j)]) := Lib.hid fun j => qturn_more n f first j
  have HP : Hid (∀ j, j ≤ k → qturn n f first j <+: qturn n f first k) := Lib.hid fun j hj => qturn_pre' n f first j k hj
  have HZ : Hid (J (qturn n f first 0) W) := Lib.hid h0
  have HS := Lib.hid (fun (i : Nat) (W : World) (hi : i ≤ 70) => slot_any A n c f i m W hn hn2 hf hi)
  have HK := Lib.hid (And.intro hk hn)
  obtain ⟨e, he⟩ : ∃ e, first + k = e := ⟨_, rfl⟩
  rw [he] at HBA
  have HE := Lib.hid he
  clear hB1 hB2 hB3 hAb hn hn2 hf hk h0 he
  refine callsIn_of_wp Try.func27 rfl trivial ?_ rfl
  simp only [Try.ntmps27, List.size_toArray, List.length_cons, List.length_nil, Nat.reduceAdd, Nat.reduceSub, Array.replicate_succ, Array.replicate_zero, List.push_toArray, List.append_toArray, List.nil_append, List.cons_append]
  gi_wp2
  clear c0
  gi_loopw [5] (fun i wr => ∃ j p : Nat, Hid (j ≤ k ∧ first + j = p) ∧ i = .int .i64 (p : Int) ∧ Hid (J (qturn n f first j) wr) ∧ Hid (Boxed wr Bl 3 (.int .i64 (e : Int)) ∧ Blk wr Br 24 (qcs A n c (f : Int) m)))
    (fun i _ => e - (intOf i).toNat)
  case atStart => exact ⟨0, first, Lib.hid ⟨Nat.zero_le _, rfl⟩, rfl, HZ, HBA⟩
  case round =>
    obtain ⟨j, p, HI, rfl, HJ, HB⟩ := hrel
    have hi := HI.out
    have he := HE.out
    have c1 := HB.out.1.cell
    obtain ⟨⟨q0, q1, q2⟩, _⟩ := qcells HB.out.2
    by_cases hlt : j < k
    · have hpe : (p : Int) < (e : Int) := by omega
      have hp70 : p ≤ 70 := by have := HK.out.1; omega
      have HS1 := Lib.hid (fun W => HS.out p W hp70)
      have HT1 := Lib.hid (HT.out j)
      rw [hi.2] at HT1
      have HP1 := Lib.hid (HP.out (j + 1) (by omega))
      have HJ1 := Lib.hid (fun wa (hba : Below wr.heap.size wr wa) => HAb.out _ _ _ HJ.out hba)
      have HB1 := Lib.hid (fun wa (hba : Below wr.heap.size wr wa) => And.intro (boxed_below HB.out.1 hba) (HB.out.2.below hba))
      have HP2 : Hid (qturn n f first j ++ [qs n f p] <+: qturn n f first k) := Lib.hid (HT1.out ▸ HP1.out)
      have HNX : Hid ((j + 1 ≤ k ∧ first + (j + 1) = p + 1) ∧ e - (p + 1) < e - p) := Lib.hid (by omega)
      have HYY := Lib.hid (fun wa (hba : Below wr.heap.size wr wa) => hY (qturn n f first j) (qs n f p) wa (HJ1.out wa hba) HP2.out)
      generalize qs n f p = x at *
      clear hi he hlt
      gi_wp2_with fail
      refine ⟨trivial, ?_⟩
      refine (callsIn_wide.2 (HS1.out _)).mono ?_
      rintro e1 w1 ⟨rfl, hb1⟩
      obtain ⟨fn, tmps, assign, body, hy, hR⟩ := HYY.out w1 hb1
      dsimp only [qe] at hy
      have HR := Lib.hid hR
      clear hR
      gi_wp2
      refine HR.out.mono ?_
      rintro e2 W3 (⟨rfl, hJ3, hk3⟩ | ⟨rfl, hJx3⟩)
      · have HF : Hid (J (qturn n f first (j + 1)) W3) := Lib.hid (by rw [HT1.out]; exact hJ3)
        have HB3 := Lib.hid (And.intro (hk3.boxed (by decide) (by decide) (HB1.out w1 hb1).1) (hk3.blk (by decide) (by decide) (HB1.out w1 hb1).2))
        clear hJ3 hk3 q0 q1 q2 c1
        gi_wp2
        go_roundw
        case rel => exact ⟨j + 1, p + 1, Lib.hid HNX.out.1, by simp, HF, HB3⟩
        case measure => have := HNX.out.2; simp [intOf]; omega
      · gi_wp2
        refine bodyPost_ret (results_none rfl _ _ _) rfl ?_
        exact ⟨⟨_, rfl⟩, .inr ⟨_, HP2.out, hJx3⟩⟩
    · obtain rfl : j = k := by omega
      obtain rfl : p = e := by omega
      gi_wp2
      go_end0
      exact ⟨⟨_, rfl⟩, .inl HJ.out⟩

theorem turn_hands (N : Nat) (hN : 1 ≤ N) (Bf Bl Br n c f first k : Nat) (m : Int) (A : Option Addr) (w0 w : World) (hn : 1 ≤ n) (hn2 : n ≤ 70) (hf : f ≤ 70) (hk : first + k ≤ 70)
    (hB1 : Boxed w Bf 3 (.int .i64 (first : Int))) (hB2 : Boxed w Bl 3 (.int .i64 ((first + k : Nat) : Int))) (hB3 : Blk w Br 24 (qcs A n c (f : Int) m)) :
    HandsQ qe N 27 #[.pointer (some ⟨Bf, 0, none⟩), .pointer (some ⟨Bl, 0, none⟩), .pointer (some ⟨Br, 0, none⟩)] w0.heap.size (qturn n f first k) w := fun l J Jx W hW hAb hY h0 =>
  turn_in N hN l Bf Bl Br n c f first k m A w0 hn hn2 hf hk J Jx W hAb hY (boxed_below hB1 hW) (boxed_below hB2 hW) (hB3.below hW) h0
end Go.Proofs.Ytnehodipblabbaa
