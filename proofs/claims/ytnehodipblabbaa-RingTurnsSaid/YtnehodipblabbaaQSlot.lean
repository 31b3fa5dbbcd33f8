/- The contracts of isCount, slotOf, turned, the reference's place and the law's few. -/
import Derived.Test.YtnehodipblabbaaQRow
namespace Go.Proofs.Ytnehodipblabbaa
open Go.RowKit

set_option maxRecDepth 100000 in
set_option maxHeartbeats 1000000 in
theorem qcount_any (N : Int) (w : World) :
    Calls Try.prog 20 #[.int .i64 N] w fun e w' => e = .returned (.bool (decide (1 ≤ N) && decide (N ≤ 64))) ∧ w = w' := by
  by_cases h1 : 1 ≤ N
  · go_enter Try.func20, Try.ntmps20
    go_wp2
    go_ret
    simp [h1]
  · go_enter Try.func20, Try.ntmps20
    go_wp2
    go_ret
    simp
    omega

set_option maxRecDepth 100000 in
set_option maxHeartbeats 1000000 in
theorem slot_any (A : Option Addr) (n c f i : Nat) (m : Int) (w : World) (hn : 1 ≤ n) (hn2 : n ≤ 70) (hf : f ≤ 70) (hi : i ≤ 70) :
    Calls Try.prog 25 #[qv A n c (f : Int) m, .int .i64 (i : Int)] w fun e w' => e = .returned (.int .i64 ((qs n f i : Nat) : Int)) ∧ Below w.heap.size w w' := by
  obtain ⟨s, hs⟩ : ∃ s, f + i = s := ⟨_, rfl⟩
  have h1 : (f : Int) + (i : Int) = (s : Int) := by omega
  have h2 : s ≤ 140 := by omega
  have h3 : qs n f i = s % n := by unfold qs; rw [hs]
  have h4 : Int.tmod (s : Int) (n : Int) = ((s % n : Nat) : Int) := by rw [Int.tmod_eq_emod_of_nonneg (by omega)]; omega
  have h5 : (s : Int) % (n : Int) = ((s % n : Nat) : Int) := by omega
  have h6 : ¬ n = 0 := by omega
  have h7 : ¬ (n : Int) = 0 := by omega
  rw [h3]
  have hB := qbox_below w A n c (f : Int) m
  have hm : s % n < n := Nat.mod_lt _ (by omega)
  clear h3 hs hn hf hi
  generalize s % n = r at h4 h5 hm ⊢
  go_enter Try.func25, Try.ntmps25
  go_wp2
  go_ret
  exact ⟨rfl, hB⟩

set_option maxHeartbeats 1000000 in
theorem turned_any (A : Option Addr) (n c : Nat) (f m first last : Int) (w : World) :
    Calls Try.prog 21 #[qv A n c f m, .int .i64 first, .int .i64 last] w fun e w' => e = .returned (.func (.func 27) #[] #[.pointer (some ⟨w.heap.size + 1, 0, none⟩), .pointer (some ⟨w.heap.size + 2, 0, none⟩), .pointer (some ⟨w.heap.size, 0, none⟩)]) ∧ w' = ((qbox w A n c f m).alloc (.cells #[.int .i64 first] 3)).alloc (.cells #[.int .i64 last] 3) := by
  go_enter Try.func21, Try.ntmps21
  go_wp2
  go_ret
  exact ⟨rfl, rfl⟩

set_option maxRecDepth 100000 in
set_option maxHeartbeats 1000000 in
theorem place_any (A : Option Addr) (n c f j : Nat) (m : Int) (w : World) (hn : n ≤ 70) (hf : f < n) (hj : j < n) :
    Calls Try.prog 22 #[qv A n c (f : Int) m, .int .i64 (j : Int)] w fun e w' => e = .returned (.int .i64 ((qp n f j : Nat) : Int)) ∧ Below w.heap.size w w' := by
  obtain ⟨s, hs⟩ : ∃ s, j + n - f = s := ⟨_, rfl⟩
  have h1 : (j : Int) - (f : Int) + (n : Int) = (s : Int) := by omega
  have h2 : s ≤ 140 := by omega
  have h3 : qp n f j = s % n := by unfold qp; rw [hs]
  have h4 : Int.tmod (s : Int) (n : Int) = ((s % n : Nat) : Int) := by rw [Int.tmod_eq_emod_of_nonneg (by omega)]; omega
  have h5 : (s : Int) % (n : Int) = ((s % n : Nat) : Int) := by omega
  have h6 : ¬ n = 0 := by omega
  have h7 : ¬ (n : Int) = 0 := by omega
  rw [h3]
  have hB := qbox_below w A n c (f : Int) m
  have hm : s % n < n := Nat.mod_lt _ (by omega)
  clear h3 hs
  generalize s % n = r at h4 h5 hm ⊢
  go_enter Try.func22, Try.ntmps22
  go_wp2
  go_ret
  exact ⟨rfl, hB⟩

set_option maxRecDepth 100000 in
set_option maxHeartbeats 2000000 in
theorem qfew_any (A : Option Addr) (n c : Nat) (f m : Int) (w : World) (hn : n ≤ c) :
    Calls Try.prog 6 #[qv A n c f m] w fun e w' => e = .returned (qv A (min n 70) c f m) ∧ Below w.heap.size w w' := by
  go_enter Try.func6, Try.ntmps6
  go_wp2_with fail
  · have e : min n 70 = 70 := by omega
    rw [e]
    refine bodyPost_ret (ring1_result rfl (Blk.newAt (g := w.heap.size + 1) (by simp) _ _)) rfl ?_
    exact ⟨rfl, ba (ba (Below.refl _ _) _) _⟩
  · have e : min n 70 = n := by omega
    rw [e]
    refine bodyPost_ret (ring1_result rfl (Blk.newAt (g := w.heap.size + 1) (by simp) _ _)) rfl ?_
    exact ⟨rfl, ba (ba (Below.refl _ _) _) _⟩
end Go.Proofs.Ytnehodipblabbaa
