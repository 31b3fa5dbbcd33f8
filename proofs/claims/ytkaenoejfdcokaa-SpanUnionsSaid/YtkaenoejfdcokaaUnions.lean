/- SpanUnions is true of every row of spans, and leaves its argument as it was: the walks. -/
import Derived.Test.YtkaenoejfdcokaaRunsE
import Derived.Test.YtkaenoejfdcokaaOrder
namespace Go.Proofs.Ytkaenoejfdcokaa
open Go.RowKit Go.Shelf

theorem runs_one {W : World} {base : Nat} {v : Value} {z : E64} (h : W.ownsRow base 49 2 v [z].length (rowCells (endPairs [z]))) : ∃ g c, v = .slice (some ⟨g, 0, none⟩) 1 c ∧ g < W.heap.size ∧ 1 ≤ c ∧ W.cell? ⟨g, 0, none⟩ = some (.int .u64 z.1.1) ∧ W.cell? ⟨g, 1, none⟩ = some (.int .u64 z.1.2) := by
  obtain ⟨g, c, rfl⟩ := own_some h (by simp)
  obtain ⟨_, h1, h2, _, h3, _⟩ := own_row h
  obtain ⟨a, b⟩ := h3 0 (by simp)
  exact ⟨g, c, rfl, h1, h2, a, b⟩
theorem runs_shape {W : World} {base : Nat} {e : TypeId} {size n : Nat} {v : Value} {xs : List Value} (h : W.ownsRow base e size v n xs) : ∃ a c, v = .slice a n c := by
  obtain ⟨_, ⟨rfl, rfl⟩ | ⟨g, cap, cur, rfl, _⟩⟩ := h
  · exact ⟨_, _, rfl⟩
  · exact ⟨_, _, rfl⟩

set_option maxRecDepth 100000 in
set_option maxHeartbeats 2000000 in
theorem unions_bad (L : List (Int × Int)) (n m : Nat) (g off cap : Nat) (w : World) (hmn : min (n : Int) 12 = (m : Int)) (hm1 : 1 ≤ m) (hmc : m ≤ n) (hm12 : m ≤ 12) (hL : L.length = m) (hcap : n ≤ cap) (_ : cap ≤ 9223372036854775807) (hg : g < w.heap.size)
    (Hc : Hid (∀ j (hj : j < L.length), w.cell? ⟨g, off + j * 2, none⟩ = some (.int .u64 L[j].1) ∧ w.cell? ⟨g, off + j * 2 + 1, none⟩ = some (.int .u64 L[j].2))) (e : Int) (he : ErrP L e) :
    Calls Try.prog 6 #[.slice (some ⟨g, off, none⟩) n cap] w fun e w' => e = .returned (.bool true) ∧ Below w.heap.size w w' := by
  have hr : Reads w (.slice (some ⟨g, off, none⟩) m cap) L := ⟨by unfold maxLen; omega, .inr ⟨g, off, cap, by rw [hL], hg, Hc.out⟩⟩
  have HL := Lib.hid hL
  have HE := Lib.hid he
  have he1 := he.1
  clear hL he
  go_enter Try.func6, Try.ntmps6
  go_wp2_with fail
  with_reducible refine (union_err hr HE.out (by rw [HL.out]; omega)).mono ?_
  rintro e' w1 ⟨rfl, hb1⟩
  have hr1 := hr.later hb1
  go_wp2_with fail
  with_reducible refine (first_errP hr1 HE.out).mono ?_
  rintro e' w2 ⟨rfl, hb2⟩
  have hq : (e == 0) = false := by simp; omega
  go_wp2_with fail
  refine (alive_any _).mono ?_
  rintro e' w3 ⟨rfl, hb3⟩
  go_wp2
  go_ret
  exact ⟨rfl, bt (bt hb1 hb2) hb3⟩

set_option maxRecDepth 100000 in
set_option maxHeartbeats 2000000 in
theorem unions_ok (L : List (Int × Int)) (n m : Nat) (g off cap : Nat) (w : World) (hmn : min (n : Int) 12 = (m : Int)) (hm1 : 1 ≤ m) (hmc : m ≤ n) (hm12 : m ≤ 12) (hL : L.length = m) (hcap : n ≤ cap) (_ : cap ≤ 9223372036854775807) (hg : g < w.heap.size)
    (Hc : Hid (∀ j (hj : j < L.length), w.cell? ⟨g, off + j * 2, none⟩ = some (.int .u64 L[j].1) ∧ w.cell? ⟨g, off + j * 2 + 1, none⟩ = some (.int .u64 L[j].2))) (hok : ∀ p ∈ L, OkP p) :
    Calls Try.prog 6 #[.slice (some ⟨g, off, none⟩) n cap] w fun e w' => e = .returned (.bool true) ∧ Below w.heap.size w w' := by
  have hr : Reads w (.slice (some ⟨g, off, none⟩) m cap) L := ⟨by unfold maxLen; omega, .inr ⟨g, off, cap, by rw [hL], hg, Hc.out⟩⟩
  have HL := Lib.hid hL
  have HO := Lib.hid hok
  clear hL hok
  go_enter Try.func6, Try.ntmps6
  go_wp2_with fail
  with_reducible refine (union_ok hr HO.out (by rw [HL.out]; omega)).mono ?_
  rintro e' w1 ⟨zs, hG, hcv, hzl, hS⟩
  have hz12 : zs.length ≤ 12 := by rw [HL.out] at hzl; omega
  clear hzl
  have HG := Lib.hid hG
  have HC := Lib.hid hcv
  clear hG hcv
  by_cases hnw : ∀ z ∈ zs, ¬ Whole z
  · have HW := Lib.hid hnw
    clear hnw
    obtain ⟨v, rfl, hrv, hb1⟩ := same_of hS HW.out
    obtain ⟨va, vc, rfl⟩ := hrv.slice
    clear hS
    have hr1 := hr.later hb1
    go_wp2_with fail
    with_reducible refine (first_ok hr1 (fun j hj => HO.out _ (List.getElem_mem hj))).mono ?_
    rintro e' w2 ⟨rfl, hb2⟩
    have hr2 := hr1.later hb2
    go_wp2_with fail
    with_reducible refine (runs_any hr2 HO.out (by rw [HL.out]; omega) (by omega) HG.out HC.out).mono ?_
    rintro e' w3 ⟨rv, rfl, hrow, hb3⟩
    have hr3 := hr2.later hb3
    by_cases h1 : zs.length = 1
    · obtain ⟨z, rfl⟩ := List.length_eq_one_iff.1 h1
      clear h1
      obtain ⟨g3, c3, rfl, hg3, hc3, q0, q1⟩ := runs_one hrow
      have hw := HW.out z (by simp)
      have hcase : (z.1.1 == 0) = false ∨ (z.1.1 = 0 ∧ (z.1.2 == 18446744073709551615) = false) := by
        by_cases h0 : z.1.1 = 0
        · exact .inr ⟨h0, by simpa using fun h => hw ⟨h0, h⟩⟩
        · exact .inl (by simpa using h0)
      clear hw
      rcases hcase with hq | ⟨hq0, hq⟩
      · go_wp2_with fail
        refine (alive_any _).mono ?_
        rintro e' w4 ⟨rfl, hb4⟩
        have hr4 := hr3.later hb4
        go_wp2_with fail
        with_reducible refine (runion_any hr4 HO.out (by rw [HL.out]; omega) (by omega) HG.out HC.out HW.out).mono ?_
        rintro e' w5 ⟨v5, rfl, ho5, hb5⟩
        have hs5 := reads_owned ho5
        obtain ⟨v5a, v5c, rfl⟩ := hs5.slice
        go_wp2_with fail
        refine (same_yes (hrv.later (bt (bt (bt hb2 hb3) hb4) hb5)) hs5).mono ?_
        rintro e' w6 ⟨rfl, hb6⟩
        go_wp2
        go_ret
        exact ⟨rfl, bt (bt (bt (bt (bt hb1 hb2) hb3) hb4) hb5) hb6⟩
      · rw [hq0] at q0
        have HQ0 := Lib.hid hq0
        clear hq0
        go_wp2_with fail
        refine (alive_any _).mono ?_
        rintro e' w4 ⟨rfl, hb4⟩
        have hr4 := hr3.later hb4
        go_wp2_with fail
        with_reducible refine (runion_any hr4 HO.out (by rw [HL.out]; omega) (by omega) HG.out HC.out HW.out).mono ?_
        rintro e' w5 ⟨v5, rfl, ho5, hb5⟩
        have hs5 := reads_owned ho5
        obtain ⟨v5a, v5c, rfl⟩ := hs5.slice
        go_wp2_with fail
        refine (same_yes (hrv.later (bt (bt (bt hb2 hb3) hb4) hb5)) hs5).mono ?_
        rintro e' w6 ⟨rfl, hb6⟩
        go_wp2
        go_ret
        exact ⟨rfl, bt (bt (bt (bt (bt hb1 hb2) hb3) hb4) hb5) hb6⟩
    · obtain ⟨ra, rc, rfl⟩ := runs_shape hrow
      have hq : ((zs.length : Int) == 1) = false := by simp; omega
      clear h1 hrow
      go_wp2_with fail
      refine (alive_any _).mono ?_
      rintro e' w4 ⟨rfl, hb4⟩
      have hr4 := hr3.later hb4
      go_wp2_with fail
      with_reducible refine (runion_any hr4 HO.out (by rw [HL.out]; omega) (by omega) HG.out HC.out HW.out).mono ?_
      rintro e' w5 ⟨v5, rfl, ho5, hb5⟩
      have hs5 := reads_owned ho5
      obtain ⟨v5a, v5c, rfl⟩ := hs5.slice
      go_wp2_with fail
      refine (same_yes (hrv.later (bt (bt (bt hb2 hb3) hb4) hb5)) hs5).mono ?_
      rintro e' w6 ⟨rfl, hb6⟩
      go_wp2
      go_ret
      exact ⟨rfl, bt (bt (bt (bt (bt hb1 hb2) hb3) hb4) hb5) hb6⟩
  · have hw : ∃ z ∈ zs, Whole z := by simpa using hnw
    clear hnw
    obtain ⟨z, hz, hzw⟩ := hw
    obtain ⟨hb1, ⟨v, hn', _, _⟩ | ⟨_, rfl⟩⟩ := hS
    · exact absurd hzw (hn' z hz)
    obtain rfl : zs = [z] := gaps_whole HG.out hz hzw
    obtain ⟨hw0, hw1⟩ := hzw
    have hr1 := hr.later hb1
    go_wp2_with fail
    with_reducible refine (first_ok hr1 (fun j hj => HO.out _ (List.getElem_mem hj))).mono ?_
    rintro e' w2 ⟨rfl, hb2⟩
    have hr2 := hr1.later hb2
    go_wp2_with fail
    with_reducible refine (runs_any hr2 HO.out (by rw [HL.out]; omega) (by omega) HG.out HC.out).mono ?_
    rintro e' w3 ⟨rv, rfl, hrow, hb3⟩
    obtain ⟨g3, c3, rfl, hg3, hc3, q0, q1⟩ := runs_one hrow
    rw [hw0] at q0
    rw [hw1] at q1
    go_wp2_with fail
    refine (alive_any _).mono ?_
    rintro e' w4 ⟨rfl, hb4⟩
    go_wp2
    go_ret
    exact ⟨rfl, bt (bt (bt hb1 hb2) hb3) hb4⟩

set_option maxRecDepth 100000 in
set_option maxHeartbeats 2000000 in
theorem unions_nil (w : World) :
    Calls Try.prog 6 #[.slice none 0 0] w fun e w' => e = .returned (.bool true) ∧ Below w.heap.size w w' := by
  have hr : Reads w (.slice none 0 0) [] := ⟨Nat.zero_le _, .inl ⟨_, _, rfl, rfl⟩⟩
  have HO : Hid (∀ p ∈ ([] : List (Int × Int)), OkP p) := fun p hp => by cases hp
  go_enter Try.func6, Try.ntmps6
  go_wp2_with fail
  refine (union_ok hr HO.out (Nat.zero_le _)).mono ?_
  rintro e' w1 ⟨zs, hG, hcv, hzl, hS⟩
  have hz0 : zs = [] := List.length_eq_zero_iff.1 (by simpa using hzl)
  subst hz0
  have HG := Lib.hid hG
  have HC := Lib.hid hcv
  clear hG hcv hzl
  obtain ⟨v, rfl, hrv, hb1⟩ := same_of hS nw0
  obtain ⟨va, vc, rfl⟩ := hrv.slice
  clear hS
  have hr1 := hr.later hb1
  go_wp2_with fail
  refine (first_ok hr1 (fun j hj => HO.out _ (List.getElem_mem hj))).mono ?_
  rintro e' w2 ⟨rfl, hb2⟩
  have hr2 := hr1.later hb2
  go_wp2_with fail
  refine (runs_any hr2 HO.out (Nat.zero_le _) (Nat.zero_le _) HG.out HC.out).mono ?_
  rintro e' w3 ⟨rv, rfl, hrow, hb3⟩
  have hr3 := hr2.later hb3
  obtain ⟨ra, rc, rfl⟩ := runs_shape hrow
  go_wp2_with fail
  refine (alive_any _).mono ?_
  rintro e' w4 ⟨rfl, hb4⟩
  have hr4 := hr3.later hb4
  go_wp2_with fail
  refine (runion_any hr4 HO.out (Nat.zero_le _) (Nat.zero_le _) HG.out HC.out nw0).mono ?_
  rintro e' w5 ⟨v5, rfl, ho5, hb5⟩
  have hs5 := reads_owned ho5
  obtain ⟨v5a, v5c, rfl⟩ := hs5.slice
  go_wp2_with fail
  refine (same_yes (hrv.later (bt (bt (bt hb2 hb3) hb4) hb5)) hs5).mono ?_
  rintro e' w6 ⟨rfl, hb6⟩
  go_wp2
  go_ret
  exact ⟨rfl, bt (bt (bt (bt (bt hb1 hb2) hb3) hb4) hb5) hb6⟩

set_option maxRecDepth 100000 in
set_option maxHeartbeats 2000000 in
theorem unions_zero (g off cap : Nat) (s : Option Nat) (hcm : cap ≤ 9223372036854775807) (w : World) :
    Calls Try.prog 6 #[.slice (some ⟨g, off, s⟩) 0 cap] w fun e w' => e = .returned (.bool true) ∧ Below w.heap.size w w' := by
  have hr : Reads w (.slice (some ⟨g, off, s⟩) 0 cap) [] := ⟨Nat.zero_le _, .inl ⟨_, _, rfl, rfl⟩⟩
  have HO : Hid (∀ p ∈ ([] : List (Int × Int)), OkP p) := fun p hp => by cases hp
  go_enter Try.func6, Try.ntmps6
  go_wp2_with fail
  refine (union_ok hr HO.out (Nat.zero_le _)).mono ?_
  rintro e' w1 ⟨zs, hG, hcv, hzl, hS⟩
  have hz0 : zs = [] := List.length_eq_zero_iff.1 (by simpa using hzl)
  subst hz0
  have HG := Lib.hid hG
  have HC := Lib.hid hcv
  clear hG hcv hzl
  obtain ⟨v, rfl, hrv, hb1⟩ := same_of hS nw0
  obtain ⟨va, vc, rfl⟩ := hrv.slice
  clear hS
  have hr1 := hr.later hb1
  go_wp2_with fail
  refine (first_ok hr1 (fun j hj => HO.out _ (List.getElem_mem hj))).mono ?_
  rintro e' w2 ⟨rfl, hb2⟩
  have hr2 := hr1.later hb2
  go_wp2_with fail
  refine (runs_any hr2 HO.out (Nat.zero_le _) (Nat.zero_le _) HG.out HC.out).mono ?_
  rintro e' w3 ⟨rv, rfl, hrow, hb3⟩
  have hr3 := hr2.later hb3
  obtain ⟨ra, rc, rfl⟩ := runs_shape hrow
  go_wp2_with fail
  refine (alive_any _).mono ?_
  rintro e' w4 ⟨rfl, hb4⟩
  have hr4 := hr3.later hb4
  go_wp2_with fail
  refine (runion_any hr4 HO.out (Nat.zero_le _) (Nat.zero_le _) HG.out HC.out nw0).mono ?_
  rintro e' w5 ⟨v5, rfl, ho5, hb5⟩
  have hs5 := reads_owned ho5
  obtain ⟨v5a, v5c, rfl⟩ := hs5.slice
  go_wp2_with fail
  refine (same_yes (hrv.later (bt (bt (bt hb2 hb3) hb4) hb5)) hs5).mono ?_
  rintro e' w6 ⟨rfl, hb6⟩
  go_wp2
  go_ret
  exact ⟨rfl, bt (bt (bt (bt (bt hb1 hb2) hb3) hb4) hb5) hb6⟩

theorem unions_any (v : Value) (w : World) (h : v = .slice none 0 0 ∨ ∃ (a : Addr) (len cap : Nat) (L : List (Int × Int)), v = .slice (some a) len cap ∧ len ≤ cap ∧ cap ≤ maxLen ∧ L.length = len ∧ (∀ q ∈ L, NumP q) ∧
      ∀ j (hj : j < L.length), w.cell? (a.add (j * 2)) = some (.int .u64 L[j].1) ∧ w.cell? (a.add (j * 2 + 1)) = some (.int .u64 L[j].2)) :
    Calls Try.prog 6 #[v] w fun e w' => e = .returned (.bool true) ∧ Below w.heap.size w w' := by
  rcases h with rfl | ⟨⟨g, off, s⟩, len, cap, L, rfl, hlc, hcm, hL, hn, hc⟩
  · exact unions_nil w
  · have hcm' : cap ≤ 9223372036854775807 := by unfold maxLen at hcm; omega
    by_cases h0 : len = 0
    · subst h0
      exact unions_zero g off cap s hcm' w
    · have hs : s = none := by
        have := (hc 0 (by omega)).1
        simpa [Addr.add] using World.cell?_spot this
      subst hs
      have hc' : ∀ j (hj : j < L.length), w.cell? ⟨g, off + j * 2, none⟩ = some (.int .u64 L[j].1) ∧ w.cell? ⟨g, off + j * 2 + 1, none⟩ = some (.int .u64 L[j].2) := fun j hj => by
        have := hc j hj
        rw [Go.WideShapes.add_plain, Go.WideShapes.add_plain, ← Nat.add_assoc] at this
        exact this
      have hg : g < w.heap.size := World.block_lt_of_cell? _ _ (hc' 0 (by omega)).1
      obtain ⟨m, hm⟩ : ∃ m : Nat, m = min len 12 := ⟨_, rfl⟩
      have hLm : (L.take m).length = m := by rw [List.length_take]; omega
      rcases okP_or (L.take m) (fun p hp => hn p (List.mem_of_mem_take hp)) with hok | ⟨e, he⟩
      · exact unions_ok (L.take m) len m g off cap w (by omega) (by omega) (by omega) (by omega) hLm hlc hcm' hg (cells_take hc' m) hok
      · exact unions_bad (L.take m) len m g off cap w (by omega) (by omega) (by omega) (by omega) hLm hlc hcm' hg (cells_take hc' m) e he

end Go.Proofs.Ytkaenoejfdcokaa
