/- Same of two rows that hold the same pairs, for every such two: true. -/
import Derived.Test.YtkaenoejfdcokaaLessB
namespace Go.Proofs.Ytkaenoejfdcokaa
open Go.RowKit Go.Shelf

/-- A slice value reads as a list of pairs. -/
def Reads (W : World) (v : Value) (L : List (Int × Int)) : Prop :=
  L.length ≤ maxLen ∧ ((∃ a c, v = .slice a 0 c ∧ L = []) ∨ ∃ g off cap, v = .slice (some ⟨g, off, none⟩) L.length cap ∧ g < W.heap.size ∧ ∀ j (hj : j < L.length), W.cell? ⟨g, off + j * 2, none⟩ = some (.int .u64 L[j].1) ∧ W.cell? ⟨g, off + j * 2 + 1, none⟩ = some (.int .u64 L[j].2))
theorem reads_owned {W : World} {base : Nat} {e : TypeId} {v : Value} {L : List (Int × Int)} (h : W.ownsRow base e 2 v L.length (rowCells L)) : Reads W v L := by
  rcases owned_cells h with ⟨rfl, rfl⟩ | ⟨g, cap, rfl, hg, _, h1, h2, hc⟩
  · exact ⟨Nat.zero_le _, .inl ⟨_, _, rfl, rfl⟩⟩
  · exact ⟨Nat.le_trans h1 h2, .inr ⟨g, 0, cap, rfl, hg, hc⟩⟩
theorem Reads.later {W W1 : World} {v : Value} {L : List (Int × Int)} (h : Reads W v L) (hb : Below W.heap.size W W1) : Reads W1 v L := by
  obtain ⟨hl, h | ⟨g, off, cap, rfl, hg, hc⟩⟩ := h
  · exact ⟨hl, .inl h⟩
  · exact ⟨hl, .inr ⟨g, off, cap, rfl, Nat.lt_of_lt_of_le hg hb.size, fun j hj => ⟨(hb.cell (p := ⟨g, _, none⟩) hg).trans (hc j hj).1, (hb.cell (p := ⟨g, _, none⟩) hg).trans (hc j hj).2⟩⟩⟩
theorem Reads.slice {W : World} {v : Value} {L : List (Int × Int)} (h : Reads W v L) : ∃ a c, v = .slice a L.length c := by
  obtain ⟨_, ⟨a, c, rfl, rfl⟩ | ⟨g, off, cap, rfl, _⟩⟩ := h
  · exact ⟨a, c, rfl⟩
  · exact ⟨_, _, rfl⟩

set_option maxHeartbeats 1000000 in
theorem same_nil (a b : Option Addr) (c d : Nat) (w : World) :
    Calls Try.prog 17 #[.slice a 0 c, .slice b 0 d] w fun e w' => e = .returned (.bool true) ∧ Below w.heap.size w w' := by
  go_enter Try.func17, Try.ntmps17
  go_wp2
  go_loopw [13] (fun i wr => i = .int .i64 0 ∧ wr = w) (fun _ _ => 0)
  case atStart => exact ⟨rfl, rfl⟩
  case round =>
    obtain ⟨rfl, rfl⟩ := hrel
    go_wp2
    go_ret
    exact ⟨rfl, Below.refl _ _⟩

set_option maxHeartbeats 2000000 in
theorem same_cons (L : List (Int × Int)) (hl : L.length ≤ maxLen) (g g' off off' c d : Nat) (w : World) (hg : g < w.heap.size) (hg' : g' < w.heap.size)
    (h : ∀ j (hj : j < L.length), w.cell? ⟨g, off + j * 2, none⟩ = some (.int .u64 L[j].1) ∧ w.cell? ⟨g, off + j * 2 + 1, none⟩ = some (.int .u64 L[j].2))
    (h' : ∀ j (hj : j < L.length), w.cell? ⟨g', off' + j * 2, none⟩ = some (.int .u64 L[j].1) ∧ w.cell? ⟨g', off' + j * 2 + 1, none⟩ = some (.int .u64 L[j].2)) :
    Calls Try.prog 17 #[.slice (some ⟨g, off, none⟩) L.length c, .slice (some ⟨g', off', none⟩) L.length d] w fun e w' => e = .returned (.bool true) ∧ Below w.heap.size w w' := by
  unfold maxLen at hl
  have Hh : Hid _ := h
  have Hh' : Hid _ := h'
  clear h h'
  go_enter Try.func17, Try.ntmps17
  go_wp2
  go_loopw [13] (fun i wr => ∃ k : Nat, k ≤ L.length ∧ i = .int .i64 k ∧ Below w.heap.size w wr) (fun i _ => L.length - (intOf i).toNat)
  case atStart => exact ⟨0, Nat.zero_le _, rfl, Below.refl _ _⟩
  case round =>
    obtain ⟨k, hk, rfl, hb⟩ := hrel
    by_cases hlt : k < L.length
    · have p0 := (hb.cell (p := ⟨g, off + k * 2, none⟩) hg).trans (Hh.out k hlt).1
      have p1 := (hb.cell (p := ⟨g, off + k * 2 + 1, none⟩) hg).trans (Hh.out k hlt).2
      have q0 := (hb.cell (p := ⟨g', off' + k * 2, none⟩) hg').trans (Hh'.out k hlt).1
      have q1 := (hb.cell (p := ⟨g', off' + k * 2 + 1, none⟩) hg').trans (Hh'.out k hlt).2
      go_wp2
      go_quiet (fail)
      go_wp2
      exact ⟨⟨k + 1, by omega, by go_num, below_drewN hb nq⟩, by simp [intOf]; omega⟩
    · obtain rfl : k = L.length := by omega
      go_wp2
      go_ret
      exact ⟨rfl, hb⟩

/-- Two rows that read as one list are the same. -/
theorem same_yes {w : World} {u v : Value} {L : List (Int × Int)} (h : Reads w u L) (h' : Reads w v L) :
    Calls Try.prog 17 #[u, v] w fun e w' => e = .returned (.bool true) ∧ Below w.heap.size w w' := by
  by_cases h0 : L = []
  · subst h0
    obtain ⟨a, c, rfl⟩ := h.slice
    obtain ⟨b, d, rfl⟩ := h'.slice
    exact same_nil a b c d w
  · obtain ⟨hl, ⟨_, _, _, e⟩ | ⟨g, off, cap, rfl, hg, hc⟩⟩ := h
    · exact absurd e h0
    obtain ⟨_, ⟨_, _, _, e⟩ | ⟨g', off', cap', rfl, hg', hc'⟩⟩ := h'
    · exact absurd e h0
    exact same_cons L hl g g' off off' cap cap' w hg hg' hc hc'

/-- Less of two spans that may be, for every such two. -/
theorem less_any (f n g m A B : Int) (w : World) (f0 : 0 ≤ f) (n1 : 1 ≤ n) (fn : f + n ≤ 18446744073709551616) (g0 : 0 ≤ g) (m1 : 1 ≤ m) (gm : g + m ≤ 18446744073709551616) (HA : Hid (A = max f g)) (HB : Hid (B = min (f + (n - 1)) (g + (m - 1)))) :
    Calls Try.prog 15 #[.agg #[.int .u64 f, .int .u64 n], .agg #[.int .u64 g, .int .u64 m]] w (LessPost w (lessL f n A B)) := by
  have e1 : A - 1 - f + 1 = A - f := by omega
  have e2 : f + (n - 1) - (B + 1) + 1 = f + (n - 1) - B := by omega
  unfold lessL
  by_cases hm : B < A
  · rw [if_pos hm]
    exact less_none f n g m A B w f0 n1 fn g0 m1 gm HA HB hm
  · rw [if_neg hm]
    by_cases c1 : f < A
    · rw [if_pos c1]
      by_cases c2 : B < f + (n - 1)
      · rw [if_pos c2]
        have := less_both f n g m A B w f0 n1 fn g0 m1 gm HA HB (by omega) c1 c2
        rw [e1, e2] at this
        exact this
      · rw [if_neg c2]
        have := less_left f n g m A B w f0 n1 fn g0 m1 gm HA HB (by omega) c1 (by omega)
        rw [e1] at this
        exact this
    · rw [if_neg c1]
      by_cases c2 : B < f + (n - 1)
      · rw [if_pos c2]
        have := less_right f n g m A B w f0 n1 fn g0 m1 gm HA HB (by omega) (by omega) c2
        rw [e2] at this
        exact this
      · rw [if_neg c2]
        exact less_nil f n g m A B w f0 n1 fn g0 m1 gm HA HB (by omega) (by omega) (by omega)

set_option maxHeartbeats 1000000 in
theorem less_bad (f n g m e : Int) (w : World) (f0 : 0 ≤ f) (f1 : f ≤ 18446744073709551615) (n1 : n ≤ 18446744073709551615) (g0 : 0 ≤ g) (g1 : g ≤ 18446744073709551615) (m1 : m ≤ 18446744073709551615) (h : Bad2 f n g m e) (e1 : 1 ≤ e) :
    Calls Try.prog 15 #[.agg #[.int .u64 f, .int .u64 n], .agg #[.int .u64 g, .int .u64 m]] w fun e' w' => e' = .returned (.tuple #[.slice none 0 0, .int .i64 e]) ∧ Below w.heap.size w w' := by
  go_enter Try.func15, Try.ntmps15
  go_wp2_with fail
  refine (both_bad f n g m e _ f0 f1 n1 g0 g1 m1 h e1).mono ?_
  rintro e' w1 ⟨rfl, hb⟩
  go_wp2
  go_ret2
  exact ⟨rfl, ba (ba (bt (ba (ba (Below.refl _ _) _) _) hb) _) _⟩

/-- The row that alive lays to compare with. -/
theorem reads_two (W : World) (a b c d : Int) (t : TypeId) (C : Nat) : Reads (W.alloc (.cells #[.int .u64 a, .int .u64 b, .int .u64 c, .int .u64 d] t)) (.slice (some ⟨W.heap.size, 0, none⟩) 2 C) [(a, b), (c, d)] := by
  refine ⟨by simp [maxLen], .inr ⟨W.heap.size, 0, C, rfl, by simp, fun j hj => ?_⟩⟩
  match j, hj with
  | 0, _ => constructor <;> simp
  | 1, _ => constructor <;> simp

set_option maxHeartbeats 1000000 in
theorem alive_any (w : World) : Calls Try.prog 11 #[] w fun e w' => e = .returned (.bool true) ∧ Below w.heap.size w w' := by
  go_enter Try.func11, Try.ntmps11
  go_wp2_with fail
  refine (less_any 0 10 4 2 4 5 _ (by omega) (by omega) (by omega) (by omega) (by omega) (by omega) (show 4 = max 0 4 by omega) (show 5 = min (0 + (10 - 1)) (4 + (2 - 1)) by omega)).mono ?_
  rintro e w1 ⟨v, rfl, ho, hb⟩
  have hr := reads_owned ho
  go_wp2_with fail
  have h2 := reads_two w1 0 4 6 4 24 2
  rw [show lessL 0 10 4 5 = [(0, 4), (6, 4)] by decide] at hr
  refine (same_yes (hr.later ((Below.refl _ _).alloc (Nat.le_refl _) _)) h2).mono ?_
  rintro e w2 ⟨rfl, hb2⟩
  go_wp2
  go_ret
  exact ⟨rfl, bt (ba hb _) hb2⟩
end Go.Proofs.Ytkaenoejfdcokaa
