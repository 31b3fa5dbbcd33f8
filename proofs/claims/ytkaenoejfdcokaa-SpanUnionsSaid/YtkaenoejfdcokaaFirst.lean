/- The reference's Less in one contract, and its First, for every row of spans. -/
import Derived.Test.YtkaenoejfdcokaaRefB
namespace Go.Proofs.Ytkaenoejfdcokaa
open Go.RowKit Go.Shelf

theorem rless_any (f n g m A B : Int) (w : World) (f0 : 0 ≤ f) (n1 : 1 ≤ n) (fn : f + n ≤ 18446744073709551616) (g0 : 0 ≤ g) (m1 : 1 ≤ m) (gm : g + m ≤ 18446744073709551616) (HA : Hid (A = max f g)) (HB : Hid (B = min (f + (n - 1)) (g + (m - 1)))) :
    Calls Try.prog 18 #[.agg #[.int .u64 f, .int .u64 n], .agg #[.int .u64 g, .int .u64 m]] w (RowPost w (lessL f n A B)) := by
  have hA := HA.out
  have hB := HB.out
  unfold lessL
  by_cases hm : B < A
  · rw [if_pos hm]
    exact rless_none f n g m A B w f0 n1 fn g0 m1 gm HA HB hm
  · rw [if_neg hm]
    by_cases c1 : f < g
    · rw [if_pos (show f < A by omega)]
      by_cases c2 : g + (m - 1) < f + (n - 1)
      · rw [if_pos (show B < f + (n - 1) by omega)]
        have := rless_both f n g m A B w f0 n1 fn g0 m1 gm HA HB (by omega) c1 c2
        rw [show g - 1 - f + 1 = A - f by omega, show f + (n - 1) - (g + (m - 1) + 1) + 1 = f + (n - 1) - B by omega, show g + (m - 1) + 1 = B + 1 by omega] at this
        exact this
      · rw [if_neg (show ¬ B < f + (n - 1) by omega)]
        have := rless_left f n g m A B w f0 n1 fn g0 m1 gm HA HB (by omega) c1 (by omega)
        rw [show g - 1 - f + 1 = A - f by omega] at this
        exact this
    · rw [if_neg (show ¬ f < A by omega)]
      by_cases c2 : g + (m - 1) < f + (n - 1)
      · rw [if_pos (show B < f + (n - 1) by omega)]
        have := rless_right f n g m A B w f0 n1 fn g0 m1 gm HA HB (by omega) (by omega) c2
        rw [show f + (n - 1) - (g + (m - 1) + 1) + 1 = f + (n - 1) - B by omega, show g + (m - 1) + 1 = B + 1 by omega] at this
        exact this
      · rw [if_neg (show ¬ B < f + (n - 1) by omega)]
        exact rless_nil f n g m A B w f0 n1 fn g0 m1 gm HA HB (by omega) (by omega) (by omega)

/-- A pair that is a span that may be. -/
def OkP (x : Int × Int) : Prop := 0 ≤ x.1 ∧ 1 ≤ x.2 ∧ x.1 + x.2 ≤ 18446744073709551616
/-- A pair of numbers. -/
def NumP (x : Int × Int) : Prop := 0 ≤ x.1 ∧ x.1 ≤ 18446744073709551615 ∧ 0 ≤ x.2 ∧ x.2 ≤ 18446744073709551615

set_option maxHeartbeats 1000000 in
theorem first_nil (a : Option Addr) (c : Nat) (w : World) :
    Calls Try.prog 16 #[.slice a 0 c] w fun e w' => e = .returned (.int .i64 0) ∧ Below w.heap.size w w' := by
  go_enter Try.func16, Try.ntmps16
  go_wp2
  go_loopw [7] (fun i wr => i = .int .i64 0 ∧ wr = w) (fun _ _ => 0)
  case atStart => exact ⟨rfl, rfl⟩
  case round =>
    obtain ⟨rfl, rfl⟩ := hrel
    go_wp2
    go_ret
    exact ⟨rfl, Below.refl _ _⟩

set_option maxHeartbeats 2000000 in
theorem first_cons (L : List (Int × Int)) (hl : L.length ≤ maxLen) (g off c : Nat) (w : World) (hg : g < w.heap.size)
    (h : ∀ j (hj : j < L.length), w.cell? ⟨g, off + j * 2, none⟩ = some (.int .u64 L[j].1) ∧ w.cell? ⟨g, off + j * 2 + 1, none⟩ = some (.int .u64 L[j].2))
    (hok : ∀ j (hj : j < L.length), OkP L[j]) :
    Calls Try.prog 16 #[.slice (some ⟨g, off, none⟩) L.length c] w fun e w' => e = .returned (.int .i64 0) ∧ Below w.heap.size w w' := by
  unfold maxLen at hl
  have Hh : Hid _ := h
  have Ho : Hid _ := hok
  clear h hok
  go_enter Try.func16, Try.ntmps16
  go_wp2
  go_loopw [7] (fun i wr => ∃ k : Nat, k ≤ L.length ∧ i = .int .i64 k ∧ Below w.heap.size w wr) (fun i _ => L.length - (intOf i).toNat)
  case atStart => exact ⟨0, Nat.zero_le _, rfl, Below.refl _ _⟩
  case round =>
    obtain ⟨k, hk, rfl, hb⟩ := hrel
    by_cases hlt : k < L.length
    · have p0 := (hb.cell (p := ⟨g, off + k * 2, none⟩) hg).trans (Hh.out k hlt).1
      have p1 := (hb.cell (p := ⟨g, off + k * 2 + 1, none⟩) hg).trans (Hh.out k hlt).2
      obtain ⟨o1, o2, o3⟩ := Ho.out k hlt
      go_wp2_with fail
      refine (rcheck_ok _ _ _ o1 o2 o3).mono ?_
      rintro e w1 ⟨rfl, hb1⟩
      go_wp2
      exact ⟨⟨k + 1, by omega, by go_num, bt (ba hb _) hb1⟩, by simp [intOf]; omega⟩
    · obtain rfl : k = L.length := by omega
      go_wp2
      go_ret
      exact ⟨rfl, hb⟩

set_option maxHeartbeats 2000000 in
theorem first_bad (L : List (Int × Int)) (hl : L.length ≤ maxLen) (g off c : Nat) (w : World) (hg : g < w.heap.size)
    (h : ∀ j (hj : j < L.length), w.cell? ⟨g, off + j * 2, none⟩ = some (.int .u64 L[j].1) ∧ w.cell? ⟨g, off + j * 2 + 1, none⟩ = some (.int .u64 L[j].2))
    (b : Nat) (hbl : b < L.length) (hok : ∀ j (hj : j < b), OkP (L[j]'(by omega))) (hn : NumP L[b]) (e : Int) (e1 : 1 ≤ e) (hbad : Bad L[b].1 L[b].2 e) :
    Calls Try.prog 16 #[.slice (some ⟨g, off, none⟩) L.length c] w fun e' w' => e' = .returned (.int .i64 e) ∧ Below w.heap.size w w' := by
  unfold maxLen at hl
  have Hh : Hid _ := h
  have Ho : Hid _ := hok
  have Hn : Hid _ := hn
  clear h hok hn
  go_enter Try.func16, Try.ntmps16
  go_wp2
  go_loopw [7] (fun i wr => ∃ k : Nat, k ≤ b ∧ i = .int .i64 k ∧ Below w.heap.size w wr) (fun i _ => b - (intOf i).toNat)
  case atStart => exact ⟨0, Nat.zero_le _, rfl, Below.refl _ _⟩
  case round =>
    obtain ⟨k, hk, rfl, hb⟩ := hrel
    have hkl : k < L.length := by omega
    have p0 := (hb.cell (p := ⟨g, off + k * 2, none⟩) hg).trans (Hh.out k hkl).1
    have p1 := (hb.cell (p := ⟨g, off + k * 2 + 1, none⟩) hg).trans (Hh.out k hkl).2
    by_cases hlt : k < b
    · obtain ⟨o1, o2, o3⟩ := Ho.out k hlt
      go_wp2_with fail
      refine (rcheck_ok _ _ _ o1 o2 o3).mono ?_
      rintro e w1 ⟨rfl, hb1⟩
      go_wp2
      exact ⟨⟨k + 1, by omega, by go_num, bt (ba hb _) hb1⟩, by simp [intOf]; omega⟩
    · obtain rfl : k = b := by omega
      obtain ⟨o1, o2, _, o4⟩ := Hn.out
      go_wp2_with fail
      refine (rcheck_bad _ _ e _ o1 o2 o4 hbad).mono ?_
      rintro e' w1 ⟨rfl, hb1⟩
      have c0 := ((At.new wr #[.int .u64 L[k].1, .int .u64 L[k].2] 24 (o := 0) (v := .int .u64 L[k].1) rfl).later hb1).1
      have c1 := ((At.new wr #[.int .u64 L[k].1, .int .u64 L[k].2] 24 (o := 1) (v := .int .u64 L[k].2) rfl).later hb1).1
      go_wp2_with fail
      refine (rcheck_bad _ _ e _ o1 o2 o4 hbad).mono ?_
      rintro e' w2 ⟨rfl, hb2⟩
      go_wp2
      go_ret
      exact ⟨rfl, bt (bt (ba hb _) hb1) hb2⟩
end Go.Proofs.Ytkaenoejfdcokaa
