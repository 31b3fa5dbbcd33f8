/- The reference's joins and grown: a run against a span, and a run grown by all spans of a row. -/
import Derived.Test.YtkaenoejfdcokaaRunsMath
import Derived.Deep.RegionHeld3
import Derived.Lib.Hide
namespace Go.Proofs.Ytkaenoejfdcokaa
open Go.RowKit Go.Shelf

/-- A run of numbers. -/
def RngR (r : Int × Int) : Prop := 0 ≤ r.1 ∧ r.1 ≤ r.2 ∧ r.2 ≤ 18446744073709551615
theorem rng_ends {p : Int × Int} (h : OkP p) : RngR (endsP p) := toE_ok h
theorem step_rng {r p : Int × Int} (h : RngR r) (hp : OkP p) : RngR (stepR r p) := by
  obtain ⟨a, b, c⟩ := h
  obtain ⟨d, e, f⟩ := hp
  unfold stepR
  split
  · exact ⟨show 0 ≤ min r.1 p.1 by omega, show min r.1 p.1 ≤ max r.2 (endOf p) by omega, show max r.2 (endOf p) ≤ _ by unfold endOf; omega⟩
  · exact ⟨a, b, c⟩
theorem fold_rng {M : List (Int × Int)} (hM : ∀ p ∈ M, OkP p) : ∀ r, RngR r → RngR (M.foldl stepR r) := by
  induction M with
  | nil => exact fun r h => h
  | cons p M ih => exact fun r h => ih (fun q hq => hM q (by simp [hq])) _ (step_rng h (hM p (by simp)))
theorem grow_rng {L : List (Int × Int)} (hL : ∀ p ∈ L, OkP p) {r : Int × Int} (h : RngR r) (k : Nat) : RngR (growR L k r) := by
  induction k with
  | zero => exact h
  | succ k ih => exact fold_rng hL _ ih
theorem fold_succ (L : List (Int × Int)) (r : Int × Int) (t : Nat) (h : t < L.length) : (L.take (t + 1)).foldl stepR r = stepR ((L.take t).foldl stepR r) L[t] := by
  rw [← List.take_append_getElem h, List.foldl_append]
  rfl

theorem Box2.other {W : World} {B : Nat} {t : TypeId} {x y : Value} (h : Box2 W B t x y) {b o : Nat} (hne : B ≠ b) (v : Value) : Box2 (W.setCell ⟨b, o, none⟩ v) B t x y :=
  (Below.heap_setCell W ⟨b, o, none⟩ v B hne).trans h

set_option maxHeartbeats 400000 in
theorem joins_ahead (a b f n : Int) (w : World) (f1 : f ≤ 18446744073709551615) (h0 : 0 ≤ b) (h : b < f) (v : Bool) (hv : (f - b == 1) = v) :
    Calls Try.prog 48 #[.int .u64 a, .int .u64 b, .agg #[.int .u64 f, .int .u64 n]] w fun e w' => e = .returned (.bool v) ∧ Below w.heap.size w w' := by
  go_enter Try.func48, Try.ntmps48
  go_wp2
  go_ret
  exact ⟨rfl, ba (Below.refl _ _) _⟩
set_option maxHeartbeats 400000 in
theorem joins_behind (a b f n : Int) (w : World) (f0 : 0 ≤ f) (n1 : 1 ≤ n) (fn : f + n ≤ 18446744073709551616) (a1 : a ≤ 18446744073709551615) (h : f ≤ b) (h2 : f + (n - 1) < a) (v : Bool) (hv : (a - (f + (n - 1)) == 1) = v) :
    Calls Try.prog 48 #[.int .u64 a, .int .u64 b, .agg #[.int .u64 f, .int .u64 n]] w fun e w' => e = .returned (.bool v) ∧ Below w.heap.size w w' := by
  have hd : decide (b < f) = false := by simp; omega
  go_enter Try.func48, Try.ntmps48
  go_wp2_with fail
  refine (rlast_ok f n _ f0 n1 fn).mono ?_
  rintro e w1 ⟨rfl, hb⟩
  have F0 := (Box2.new w 24 (.int .u64 f) (.int .u64 n)).below hb
  have c0 := F0.cell0
  have c1 := F0.cell1
  go_wp2_with fail
  refine (rlast_ok f n _ f0 n1 fn).mono ?_
  rintro e w2 ⟨rfl, hb2⟩
  go_wp2
  go_ret
  exact ⟨rfl, bt (bt (ba (Below.refl _ _) _) hb) hb2⟩
set_option maxHeartbeats 400000 in
theorem joins_mid (a b f n : Int) (w : World) (f0 : 0 ≤ f) (n1 : 1 ≤ n) (fn : f + n ≤ 18446744073709551616) (h : f ≤ b) (h2 : a ≤ f + (n - 1)) :
    Calls Try.prog 48 #[.int .u64 a, .int .u64 b, .agg #[.int .u64 f, .int .u64 n]] w fun e w' => e = .returned (.bool true) ∧ Below w.heap.size w w' := by
  have hd : decide (b < f) = false := by simp; omega
  have hd2 : decide (f + (n - 1) < a) = false := by simp; omega
  go_enter Try.func48, Try.ntmps48
  go_wp2_with fail
  refine (rlast_ok f n _ f0 n1 fn).mono ?_
  rintro e w1 ⟨rfl, hb⟩
  go_wp2
  go_ret
  exact ⟨rfl, bt (ba (Below.refl _ _) _) hb⟩
theorem joins_yes {r p : Int × Int} (w : World) (hr : RngR r) (hp : OkP p) (h : JoinsR r p) :
    Calls Try.prog 48 #[.int .u64 r.1, .int .u64 r.2, .agg #[.int .u64 p.1, .int .u64 p.2]] w fun e w' => e = .returned (.bool true) ∧ Below w.heap.size w w' := by
  obtain ⟨r0, r1, r2⟩ := hr
  obtain ⟨p0, p1, p2⟩ := hp
  obtain ⟨j1, j2⟩ := h
  unfold endOf at j2
  by_cases c1 : r.2 < p.1
  · exact joins_ahead _ _ _ _ w (by omega) (by omega) c1 true (by simp; omega)
  · by_cases c2 : p.1 + (p.2 - 1) < r.1
    · exact joins_behind _ _ _ _ w p0 p1 p2 (by omega) (by omega) c2 true (by simp; omega)
    · exact joins_mid _ _ _ _ w p0 p1 p2 (by omega) (by omega)
theorem joins_no {r p : Int × Int} (w : World) (hr : RngR r) (hp : OkP p) (h : ¬ JoinsR r p) :
    Calls Try.prog 48 #[.int .u64 r.1, .int .u64 r.2, .agg #[.int .u64 p.1, .int .u64 p.2]] w fun e w' => e = .returned (.bool false) ∧ Below w.heap.size w w' := by
  obtain ⟨r0, r1, r2⟩ := hr
  obtain ⟨p0, p1, p2⟩ := hp
  unfold JoinsR endOf at h
  by_cases c1 : r.2 < p.1
  · exact joins_ahead _ _ _ _ w (by omega) (by omega) c1 false (by simp; omega)
  · exact joins_behind _ _ _ _ w p0 p1 p2 (by omega) (by omega) (by omega) false (by simp; omega)
end Go.Proofs.Ytkaenoejfdcokaa
