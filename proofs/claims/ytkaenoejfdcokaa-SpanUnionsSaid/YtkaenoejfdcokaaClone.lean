/- slices.Clone of a row of spans that the call owns: a row of its own, with the same cells. -/
import Derived.Test.YtkaenoejfdcokaaCuts
namespace Go.Proofs.Ytkaenoejfdcokaa
open Go.RowKit

theorem rowCells_one (L : List (Int × Int)) : ∀ u ∈ rowCells L, u.oneCell' = true := by
  intro u hu
  simp only [rowCells, List.mem_flatMap] at hu
  obtain ⟨x, _, hx⟩ := hu
  simp at hx
  rcases hx with rfl | rfl <;> rfl

set_option maxRecDepth 100000 in
set_option maxHeartbeats 1000000 in
theorem clone_nil (w : World) : Calls Try.prog 26 #[.slice none 0 0] w (RowPost w []) := by
  go_enter Try.func26, Try.ntmps26
  have hq := fun (w : World) => Lib.run_eql_slice_nil (P := Try.prog) w 34 24 none 0 0 0 0 Try.underlying34
  go_wp2
  go_ret
  exact ⟨_, rfl, World.ownsRow_nil _ _ _ _, Below.refl _ _⟩

set_option maxRecDepth 100000 in
set_option maxHeartbeats 1000000 in
theorem clone_some (g cap : Nat) (L : List (Int × Int)) (hl : L.length * 16 ≤ 140737488351232) (w : World)
    (hc : ∀ j u, (rowCells L)[j]? = some u → w.cell? ((⟨g, 0, none⟩ : Addr).add j) = some u) :
    Calls Try.prog 26 #[.slice (some ⟨g, 0, none⟩) L.length cap] w (RowPost w L) := by
  obtain ⟨i1, hi, hz0, hz1, hz2⟩ := info_parts info24
  have hown : (w.alloc (.cells #[] 24)).ownsRow w.heap.size 24 2 (.slice (some ⟨w.heap.size, 0, none⟩) 0 0) 0 [] := owns_empty (World.alloc_heap_new _ _) (Nat.le_refl _)
  have hc' : Hid (∀ j u, (rowCells L)[j]? = some u → (w.alloc (.cells #[] 24)).cell? ((⟨g, 0, none⟩ : Addr).add j) = some u) := fun j u h => by
    exact cell_later ((Below.refl _ _).alloc (Nat.le_refl _) _) (hc j u h)
  clear hc
  go_enter Try.func26, Try.ntmps26
  have hq := fun (w : World) => Lib.run_eql_slice_nil (P := Try.prog) w 34 24 (some ⟨g, 0, none⟩) L.length cap 0 0 Try.underlying34
  go_wp2_with (at_builtin; refine wpList_append_own _ rfl (.tmp 5) (.tmp 6) 34 rfl w.heap.size 24 i1 (.agg #[.int .u64 0, .int .u64 0]) 2 16 Try.underlying34 hi hz0 hz1 hz2 rfl (by decide) _ _ _ rfl hown ⟨g, 0, none⟩ L.length cap (rowCells L) rfl (rowCells_length L) hc'.out (rowCells_one L) (by unfold maxLen; omega) (by omega) (by simp) ?_; intro v3 w3 hown3 hgrow3 _)
  obtain ⟨va, vn, vc, rfl⟩ := ownsRow_slice hown3
  go_ret
  refine ⟨_, rfl, ?_, (ba (Below.refl _ _) _).grown hgrow3 (by simp) (ownsRow_from hown)⟩
  simpa using hown3

theorem clone_any {w : World} {base : Nat} {v : Value} {L : List (Int × Int)} (hl : L.length * 16 ≤ 140737488351232) (h : w.ownsRow base 24 2 v L.length (rowCells L)) :
    Calls Try.prog 26 #[v] w (RowPost w L) := by
  obtain ⟨hx, ⟨rfl, h0⟩ | ⟨g, cap, cur, rfl, hg, hh, hle, hcap, hsz, htk⟩⟩ := h
  · rw [List.length_eq_zero_iff.1 h0]
    exact clone_nil w
  · refine clone_some g cap L hl w (fun j u hu => ?_)
    have hj : j < (rowCells L).length := (List.getElem?_eq_some_iff.1 hu).1
    rw [← htk, List.getElem?_take] at hu
    rw [if_pos (by rw [rowCells_length] at hj; exact hj)] at hu
    simp only [Array.getElem?_toList] at hu
    cases j with
    | zero => simpa [Addr.add, World.cell?, hh] using hu
    | succ j => simpa [Addr.add, World.cell?, hh] using hu

/-! ### The parts -/
/-- The parts lie in the span, no two of them meet, and together they are as long as it. -/
def PartsOk (f n : Int) (P : List (Int × Int)) : Prop :=
  (∀ j (hj : j < P.length), OkP P[j] ∧ f ≤ P[j].1 ∧ P[j].1 + P[j].2 ≤ f + n) ∧ (∀ i j (hi : i < j) (hj : j < P.length), P[i].1 + P[i].2 ≤ P[j].1 ∨ P[j].1 + P[j].2 ≤ P[i].1) ∧ (P.map (·.2)).sum = n
/-- How long the first k parts are together. -/
def sumTake (P : List (Int × Int)) (k : Nat) : Int := ((P.take k).map (·.2)).sum
theorem sumTake_zero (P : List (Int × Int)) : sumTake P 0 = 0 := rfl
theorem sumTake_succ (P : List (Int × Int)) (k : Nat) (h : k < P.length) : sumTake P (k + 1) = sumTake P k + P[k].2 := by
  unfold sumTake
  rw [← List.take_append_getElem h, List.map_append, List.sum_append]
  simp
theorem sumTake_all (P : List (Int × Int)) : sumTake P P.length = (P.map (·.2)).sum := by unfold sumTake; rw [List.take_length]
theorem sumTake_bd {f n : Int} {P : List (Int × Int)} (h : PartsOk f n P) : ∀ k, k ≤ P.length → 0 ≤ sumTake P k ∧ sumTake P k ≤ n := by
  have step : ∀ k (hk : k < P.length), sumTake P k ≤ sumTake P (k + 1) := fun k hk => by
    have := (h.1 k hk).1.2.1
    rw [sumTake_succ P k hk]; omega
  have lo : ∀ k, k ≤ P.length → 0 ≤ sumTake P k := by
    intro k
    induction k with
    | zero => intro _; exact Int.le_refl 0
    | succ k ih => intro hk; exact Int.le_trans (ih (by omega)) (step k (by omega))
  have hi : ∀ d k, k + d = P.length → sumTake P k ≤ n := by
    intro d
    induction d with
    | zero => intro k hk; obtain rfl : k = P.length := by omega
              rw [sumTake_all, h.2.2]; exact Int.le_refl _
    | succ d ih => intro k hk; exact Int.le_trans (step k (by omega)) (ih (k + 1) (by omega))
  intro k hk
  exact ⟨lo k hk, hi (P.length - k) k (by omega)⟩
theorem parts_none {f n A B : Int} (f0 : 0 ≤ f) (n1 : 1 ≤ n) (fn : f + n ≤ 18446744073709551616) (hm : B < A) : PartsOk f n (lessL f n A B) := by
  unfold lessL
  rw [if_pos hm]
  refine ⟨fun j hj => ?_, fun i j hi hj => ?_, by simp⟩
  · obtain rfl : j = 0 := by simp at hj; omega
    exact ⟨⟨f0, n1, fn⟩, Int.le_refl _, Int.le_refl _⟩
  · simp at hj; omega
theorem parts_meet {f n A B : Int} (f0 : 0 ≤ f) (n1 : 1 ≤ n) (fn : f + n ≤ 18446744073709551616) (hA : f ≤ A) (hB : B ≤ f + (n - 1)) (hm : A ≤ B) : PartsOk f n (lessL f n A B ++ [(A, B - A + 1)]) := by
  unfold lessL
  rw [if_neg (by omega)]
  by_cases c1 : f < A
  · rw [if_pos c1]
    by_cases c2 : B < f + (n - 1)
    · rw [if_pos c2]
      refine ⟨fun j hj => ?_, fun i j hi hj => ?_, by simp; omega⟩
      · match j, hj with
        | 0, _ => exact ⟨⟨f0, by show 1 ≤ A - f; omega, by show f + (A - f) ≤ _; omega⟩, Int.le_refl _, by show f + (A - f) ≤ _; omega⟩
        | 1, _ => exact ⟨⟨by show 0 ≤ B + 1; omega, by show 1 ≤ f + (n - 1) - B; omega, by show B + 1 + (f + (n - 1) - B) ≤ _; omega⟩, by show f ≤ B + 1; omega, by show B + 1 + (f + (n - 1) - B) ≤ _; omega⟩
        | 2, _ => exact ⟨⟨by show 0 ≤ A; omega, by show 1 ≤ B - A + 1; omega, by show A + (B - A + 1) ≤ _; omega⟩, by show f ≤ A; omega, by show A + (B - A + 1) ≤ _; omega⟩
      · have hj' : j < 3 := by simpa using hj
        rcases (show (i = 0 ∧ j = 1) ∨ (i = 0 ∧ j = 2) ∨ (i = 1 ∧ j = 2) by omega) with ⟨rfl, rfl⟩ | ⟨rfl, rfl⟩ | ⟨rfl, rfl⟩
        · left; show f + (A - f) ≤ B + 1; omega
        · left; show f + (A - f) ≤ A; omega
        · right; show A + (B - A + 1) ≤ B + 1; omega
    · rw [if_neg c2]
      refine ⟨fun j hj => ?_, fun i j hi hj => ?_, by simp; omega⟩
      · match j, hj with
        | 0, _ => exact ⟨⟨f0, by show 1 ≤ A - f; omega, by show f + (A - f) ≤ _; omega⟩, Int.le_refl _, by show f + (A - f) ≤ _; omega⟩
        | 1, _ => exact ⟨⟨by show 0 ≤ A; omega, by show 1 ≤ B - A + 1; omega, by show A + (B - A + 1) ≤ _; omega⟩, by show f ≤ A; omega, by show A + (B - A + 1) ≤ _; omega⟩
      · have hj' : j < 2 := by simpa using hj
        obtain ⟨rfl, rfl⟩ : i = 0 ∧ j = 1 := by omega
        left; show f + (A - f) ≤ A; omega
  · rw [if_neg c1]
    by_cases c2 : B < f + (n - 1)
    · rw [if_pos c2]
      refine ⟨fun j hj => ?_, fun i j hi hj => ?_, by simp; omega⟩
      · match j, hj with
        | 0, _ => exact ⟨⟨by show 0 ≤ B + 1; omega, by show 1 ≤ f + (n - 1) - B; omega, by show B + 1 + (f + (n - 1) - B) ≤ _; omega⟩, by show f ≤ B + 1; omega, by show B + 1 + (f + (n - 1) - B) ≤ _; omega⟩
        | 1, _ => exact ⟨⟨by show 0 ≤ A; omega, by show 1 ≤ B - A + 1; omega, by show A + (B - A + 1) ≤ _; omega⟩, by show f ≤ A; omega, by show A + (B - A + 1) ≤ _; omega⟩
      · have hj' : j < 2 := by simpa using hj
        obtain ⟨rfl, rfl⟩ : i = 0 ∧ j = 1 := by omega
        right; show A + (B - A + 1) ≤ B + 1; omega
    · rw [if_neg c2]
      refine ⟨fun j hj => ?_, fun i j hi hj => ?_, by simp; omega⟩
      · match j, hj with
        | 0, _ => exact ⟨⟨by show 0 ≤ A; omega, by show 1 ≤ B - A + 1; omega, by show A + (B - A + 1) ≤ _; omega⟩, by show f ≤ A; omega, by show A + (B - A + 1) ≤ _; omega⟩
      · simp at hj; omega
theorem lessL_short (f n A B : Int) : (lessL f n A B).length ≤ 2 := by
  unfold lessL
  split
  · simp
  · rw [List.length_append]
    split <;> split <;> simp

/-- Cut of a span that lies in another one, and of two that do not meet. -/
theorem cut_inside {x y f n : Int} (w : World) (h : OkP (x, y)) (n1 : 1 ≤ n) (n2 : n ≤ 18446744073709551615) (f0 : 0 ≤ f) (fn : f + n ≤ 18446744073709551616) (h1 : f ≤ x) (h2 : x + y ≤ f + n) :
    Calls Try.prog 14 #[.agg #[.int .u64 x, .int .u64 y], .agg #[.int .u64 f, .int .u64 n]] w fun e w' => e = .returned (.tuple #[.agg #[.int .u64 x, .int .u64 y], .int .i64 0]) ∧ Below w.heap.size w w' := by
  obtain ⟨x0, y1, xy⟩ := h
  simp only at x0 y1 xy
  have := cut_meet x y f n w x0 y1 (by omega) xy f0 n1 fn (by omega)
  rw [show max x f = x by omega, show min (x + (y - 1)) (f + (n - 1)) - x + 1 = y by omega] at this
  exact this
theorem cut_apart {x y f n : Int} (w : World) (h : OkP (x, y)) (h' : OkP (f, n)) (h1 : f + n ≤ x ∨ x + y ≤ f) :
    Calls Try.prog 14 #[.agg #[.int .u64 x, .int .u64 y], .agg #[.int .u64 f, .int .u64 n]] w fun e w' => e = .returned (.tuple #[.agg #[.int .u64 0, .int .u64 0], .int .i64 3]) ∧ Below w.heap.size w w' := by
  obtain ⟨x0, y1, xy⟩ := h
  obtain ⟨f0, n1, fn⟩ := h'
  simp only at x0 y1 xy f0 n1 fn
  exact cut_none x y f n w x0 y1 xy f0 n1 fn (by omega)
end Go.Proofs.Ytkaenoejfdcokaa
