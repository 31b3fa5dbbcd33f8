/- SpanOrder is true of every row of spans and every number, and leaves its arguments as they were: the walks. -/
import Derived.Test.YtkaenoejfdcokaaOpen
import Derived.Deep.RegionHeld3
import Derived.Lib.Hide
namespace Go.Proofs.Ytkaenoejfdcokaa
open Go.RowKit Go.Shelf

theorem concat_is (n1 n2 : Nat) (b c : Nat) (a1 a2 : Addr) (c1 c2 : Nat) (L M : List (Int × Int)) (h1' : Hid (n1 = L.length)) (h2' : Hid (n2 = M.length)) (hl : L.length ≤ 64) (hm : M.length ≤ 64) (hlm : 1 ≤ L.length + M.length) (w : World)
    (v1 : w.cell? ⟨b, 0, none⟩ = some (.slice (some a1) n1 c1)) (v2 : w.cell? ⟨b, 1, none⟩ = some (.slice (some a2) n2 c2))
    (h1 : ∀ j u, (rowCells L)[j]? = some u → w.cell? (a1.add j) = some u) (h2 : ∀ j u, (rowCells M)[j]? = some u → w.cell? (a2.add j) = some u) :
    Calls Try.prog 27 #[.slice (some ⟨b, 0, none⟩) 2 c] w (RowPost w (L ++ M)) := by
  rw [h1'.out] at v1
  rw [h2'.out] at v2
  exact concat_any b c a1 a2 c1 c2 L M hl hm hlm w v1 v2 h1 h2

/-- Union of a row that covers what ends with gaps cover: their spans. -/
def SamePost (w : World) (zs : List E64) (e : Ending) (w' : World) : Prop :=
  ∃ v, e = .returned (.tuple #[v, .int .i64 0]) ∧ Reads w' v (spanPairs zs) ∧ Below w.heap.size w w'
theorem same_of {w : World} {zs : List E64} {e : Ending} {w' : World} (h : SpansPost w zs e w') (hnw : ∀ z ∈ zs, ¬ Whole z) : SamePost w zs e w' := by
  obtain ⟨hb, ⟨v, _, he, ho⟩ | ⟨⟨z, hz, hw⟩, _⟩⟩ := h
  · refine ⟨v, he, ?_, hb⟩
    rw [spanCells_eq, show zs.length = (spanPairs zs).length by simp [spanPairs]] at ho
    exact reads_owned ho
  · exact absurd hw (hnw z hz)
theorem union_same {w : World} {v : Value} {L : List (Int × Int)} {zs : List E64} (h : Reads w v L) (hok : ∀ p ∈ L, OkP p) (hl : L.length ≤ 4096) (hz : Gaps zs) (hcov : ∀ x, cov zs x ↔ covP L x) (hnw : ∀ z ∈ zs, ¬ Whole z) :
    Calls Try.prog 23 #[v] w (SamePost w zs) :=
  (union_ok h hok hl).mono fun e w' ⟨zs', h1, h2, _, h4⟩ => by
    have e := gaps_unique zs' zs h1 hz (fun x => by rw [h2 x, hcov x])
    subst e
    exact same_of h4 hnw
theorem ok_spans (zs : List E64) : ∀ p ∈ spanPairs zs, OkP p := by
  intro p hp
  obtain ⟨z, hz, rfl⟩ := List.mem_map.1 hp
  obtain ⟨h0, h1, h2⟩ := z.2
  exact ⟨h0, by show 1 ≤ z.1.2 - z.1.1 + 1; omega, by show z.1.1 + (z.1.2 - z.1.1 + 1) ≤ _; omega⟩
theorem covP_append {L M : List (Int × Int)} {x : Int} : covP (L ++ M) x ↔ covP L x ∨ covP M x := by
  constructor
  · rintro ⟨p, hp, h⟩
    rcases List.mem_append.1 hp with hp | hp
    · exact .inl ⟨p, hp, h⟩
    · exact .inr ⟨p, hp, h⟩
  · rintro (⟨p, hp, h⟩ | ⟨p, hp, h⟩)
    · exact ⟨p, by simp [hp], h⟩
    · exact ⟨p, by simp [hp], h⟩
theorem mem_turn {L : List (Int × Int)} {k : Nat} {p : Int × Int} (h : p ∈ L.drop k ++ L.take k) : p ∈ L := (List.mem_append.1 h).elim List.mem_of_mem_drop List.mem_of_mem_take
theorem mem_twice {L : List (Int × Int)} {k : Nat} {p : Int × Int} (h : p ∈ L ++ L.drop k) : p ∈ L := (List.mem_append.1 h).elim id List.mem_of_mem_drop
theorem covP_turn (L : List (Int × Int)) (k : Nat) (x : Int) : covP (L.drop k ++ L.take k) x ↔ covP L x := by
  rw [covP_append, or_comm, ← covP_append, List.take_append_drop]
theorem covP_twice (L : List (Int × Int)) (k : Nat) (x : Int) : covP (L ++ L.drop k) x ↔ covP L x := by
  rw [covP_append]
  constructor
  · rintro (h | ⟨p, hp, h⟩)
    · exact h
    · exact ⟨p, List.mem_of_mem_drop hp, h⟩
  · exact .inl
/-- The cells of a row, and of a part of it. -/
theorem cells_of {W : World} {g off : Nat} {L : List (Int × Int)} (h : ∀ j (hj : j < L.length), W.cell? ⟨g, off + j * 2, none⟩ = some (.int .u64 L[j].1) ∧ W.cell? ⟨g, off + j * 2 + 1, none⟩ = some (.int .u64 L[j].2)) :
    ∀ j u, (rowCells L)[j]? = some u → W.cell? ((⟨g, off, none⟩ : Addr).add j) = some u := by
  intro j u hu
  have hj : j < (rowCells L).length := (List.getElem?_eq_some_iff.1 hu).1
  rw [rowCells_length] at hj
  have hj2 : j / 2 < L.length := by omega
  obtain ⟨r0, r1⟩ := rowCells_at L (j / 2) hj2
  obtain ⟨c0, c1⟩ := h (j / 2) hj2
  rw [Go.WideShapes.add_plain]
  rcases Nat.mod_two_eq_zero_or_one j with hm | hm
  · have e : j / 2 * 2 = j := by omega
    rw [e] at r0 c0
    rw [hu] at r0
    rw [c0, ← r0]
  · have e : j / 2 * 2 + 1 = j := by omega
    have e' : off + j / 2 * 2 + 1 = off + j := by omega
    rw [e] at r1
    rw [e'] at c1
    rw [hu] at r1
    rw [c1, ← r1]
theorem cells_drop {W : World} {g off : Nat} {L : List (Int × Int)} (h : ∀ j (hj : j < L.length), W.cell? ⟨g, off + j * 2, none⟩ = some (.int .u64 L[j].1) ∧ W.cell? ⟨g, off + j * 2 + 1, none⟩ = some (.int .u64 L[j].2)) (k : Nat) :
    ∀ j (hj : j < (L.drop k).length), W.cell? ⟨g, off + k * 2 + j * 2, none⟩ = some (.int .u64 (L.drop k)[j].1) ∧ W.cell? ⟨g, off + k * 2 + j * 2 + 1, none⟩ = some (.int .u64 (L.drop k)[j].2) := by
  intro j hj
  rw [List.length_drop] at hj
  have := h (k + j) (by omega)
  rw [show off + (k + j) * 2 = off + k * 2 + j * 2 by omega] at this
  rw [List.getElem_drop]
  exact this
theorem cells_take {W : World} {g off : Nat} {L : List (Int × Int)} (h : ∀ j (hj : j < L.length), W.cell? ⟨g, off + j * 2, none⟩ = some (.int .u64 L[j].1) ∧ W.cell? ⟨g, off + j * 2 + 1, none⟩ = some (.int .u64 L[j].2)) (k : Nat) :
    ∀ j (hj : j < (L.take k).length), W.cell? ⟨g, off + j * 2, none⟩ = some (.int .u64 (L.take k)[j].1) ∧ W.cell? ⟨g, off + j * 2 + 1, none⟩ = some (.int .u64 (L.take k)[j].2) := by
  intro j hj
  rw [List.length_take] at hj
  rw [List.getElem_take]
  exact h j (by omega)

set_option maxRecDepth 100000 in
set_option maxHeartbeats 1000000 in
theorem order_nil (k : Int) (w : World) :
    Calls Try.prog 8 #[.slice none 0 0, .int .i64 k] w fun e w' => e = .returned (.bool true) ∧ Below w.heap.size w w' := by
  have hr : Reads w (.slice none 0 0) [] := ⟨Nat.zero_le _, .inl ⟨_, _, rfl, rfl⟩⟩
  go_enter Try.func8, Try.ntmps8
  go_wp2_with fail
  refine (union_ok hr (fun p hp => by cases hp) (Nat.zero_le _)).mono ?_
  rintro e' w1 ⟨zs, _, _, hzl, hS⟩
  have hz0 : zs = [] := List.length_eq_zero_iff.1 (by simpa using hzl)
  subst hz0
  obtain ⟨v, rfl, hrv, hb1⟩ := same_of hS nw0
  obtain ⟨va, vc, rfl⟩ := hrv.slice
  clear hS
  go_wp2_with fail
  refine (alive_any _).mono ?_
  rintro e' w2 ⟨rfl, hb2⟩
  go_wp2
  go_ret
  exact ⟨by simp [spanPairs], bt hb1 hb2⟩

set_option maxRecDepth 100000 in
set_option maxHeartbeats 1000000 in
theorem order_zero (g off cap : Nat) (s : Option Nat) (hcm : cap ≤ 9223372036854775807) (k : Int) (w : World) :
    Calls Try.prog 8 #[.slice (some ⟨g, off, s⟩) 0 cap, .int .i64 k] w fun e w' => e = .returned (.bool true) ∧ Below w.heap.size w w' := by
  have hr : Reads w (.slice (some ⟨g, off, s⟩) 0 cap) [] := ⟨Nat.zero_le _, .inl ⟨_, _, rfl, rfl⟩⟩
  go_enter Try.func8, Try.ntmps8
  go_wp2_with fail
  refine (union_ok hr (fun p hp => by cases hp) (Nat.zero_le _)).mono ?_
  rintro e' w1 ⟨zs, _, _, hzl, hS⟩
  have hz0 : zs = [] := List.length_eq_zero_iff.1 (by simpa using hzl)
  subst hz0
  obtain ⟨v, rfl, hrv, hb1⟩ := same_of hS nw0
  obtain ⟨va, vc, rfl⟩ := hrv.slice
  clear hS
  go_wp2_with fail
  refine (alive_any _).mono ?_
  rintro e' w2 ⟨rfl, hb2⟩
  go_wp2
  go_ret
  exact ⟨by simp [spanPairs], bt hb1 hb2⟩

set_option maxRecDepth 100000 in
set_option maxHeartbeats 1000000 in
theorem order_bad_any (L : List (Int × Int)) (n m : Nat) (k : Int) (g off cap : Nat) (w : World) (hmn : min (n : Int) 12 = (m : Int)) (hm1 : 1 ≤ m) (hmc : m ≤ n) (hm12 : m ≤ 12) (hL : L.length = m) (hcap : n ≤ cap) (_ : cap ≤ 9223372036854775807) (hg : g < w.heap.size)
    (Hc : Hid (∀ j (hj : j < L.length), w.cell? ⟨g, off + j * 2, none⟩ = some (.int .u64 L[j].1) ∧ w.cell? ⟨g, off + j * 2 + 1, none⟩ = some (.int .u64 L[j].2))) (e : Int) (he : ErrP L e) :
    Calls Try.prog 8 #[.slice (some ⟨g, off, none⟩) n cap, .int .i64 k] w fun e w' => e = .returned (.bool true) ∧ Below w.heap.size w w' := by
  have hr : Reads w (.slice (some ⟨g, off, none⟩) m cap) L := ⟨by unfold maxLen; omega, .inr ⟨g, off, cap, by rw [hL], hg, Hc.out⟩⟩
  have HL := Lib.hid hL
  have HE := Lib.hid he
  have he1 := he.1
  clear hL he
  go_enter Try.func8, Try.ntmps8
  go_wp2_with fail
  with_reducible refine (union_err hr HE.out (by rw [HL.out]; omega)).mono ?_
  rintro e' w1 ⟨rfl, hb1⟩
  go_wp2_with fail
  refine (alive_any _).mono ?_
  rintro e' w2 ⟨rfl, hb2⟩
  go_wp2
  go_ret
  exact ⟨rfl, bt hb1 hb2⟩

set_option maxRecDepth 100000 in
set_option maxHeartbeats 1000000 in
theorem order_ok_any (L : List (Int × Int)) (n m : Nat) (k : Int) (g off cap : Nat) (w : World) (hmn : min (n : Int) 12 = (m : Int)) (hm1 : 1 ≤ m) (hmc : m ≤ n) (hm12 : m ≤ 12) (hL : L.length = m) (hcap : n ≤ cap) (hcm : cap ≤ 9223372036854775807) (hg : g < w.heap.size)
    (Hc : Hid (∀ j (hj : j < L.length), w.cell? ⟨g, off + j * 2, none⟩ = some (.int .u64 L[j].1) ∧ w.cell? ⟨g, off + j * 2 + 1, none⟩ = some (.int .u64 L[j].2))) (hok : ∀ p ∈ L, OkP p) (kk : Nat) (hkk : kk < m) (t : Int) (ht : Hid (k.tmod (m : Int) = t)) (t1 : -(m : Int) < t) (t2 : t < (m : Int)) (hkt : Hid ((t + (m : Int)) % (m : Int) = (kk : Int))) :
    Calls Try.prog 8 #[.slice (some ⟨g, off, none⟩) n cap, .int .i64 k] w fun e w' => e = .returned (.bool true) ∧ Below w.heap.size w w' := by
  have hr : Reads w (.slice (some ⟨g, off, none⟩) m cap) L := ⟨by unfold maxLen; omega, .inr ⟨g, off, cap, by rw [hL], hg, Hc.out⟩⟩
  have HL := Lib.hid hL
  have HO := Lib.hid hok
  clear hL hok
  go_enter Try.func8, Try.ntmps8
  go_wp2_with fail
  with_reducible refine (union_ok hr HO.out (by rw [HL.out]; omega)).mono ?_
  rintro e' w1 ⟨zs, hG, hcv, hzl, hS⟩
  have hz12 : zs.length ≤ 12 := by rw [HL.out] at hzl; omega
  clear hzl
  have HG := Lib.hid hG
  have HC := Lib.hid hcv
  clear hG hcv
  by_cases hnw : ∀ z ∈ zs, ¬ Whole z
  · have HW := Lib.hid hnw
    clear hnw
    obtain ⟨v, rfl, hrv, hb1⟩ := same_of hS HW.out
    obtain ⟨va, vc, rfl⟩ := hrv.slice
    clear hS
    have hrem : k.tmod (m : Int) = t := ht.out
    have hmod : (t + (m : Int)) % (m : Int) = (kk : Int) := hkt.out
    go_wp2_with fail
    rw [hmod]
    clear hmod hrem
    with_reducible refine (union_same hrv (ok_spans zs) (by simp [spanPairs]; omega) HG.out (fun x => (covP_spans zs x).symm) HW.out).mono ?_
    rintro e' w2 ⟨v2, rfl, hr2, hb2⟩
    obtain ⟨v2a, v2c, rfl⟩ := hr2.slice
    have hT2 := bt hb1 hb2
    have hk1 : ¬ cap = kk := by omega
    have hk2 : ¬ kk = cap := by omega
    have i0 : (0 : Int) ≤ (kk : Int) := by omega
    have i1 : (kk : Int) ≤ (m : Int) := by omega
    have i2 : (kk : Int) ≤ (cap : Int) := by omega
    have i3 : (m : Int) ≤ (cap : Int) := by omega
    have n1 : Hid (m - kk = (L.drop kk).length) := by show _ = _; rw [List.length_drop, HL.out]
    have n2 : Hid (kk = (L.take kk).length) := by show _ = _; rw [List.length_take, HL.out]; omega
    have n3 : Hid (m = L.length) := HL.out.symm
    go_wp2_with fail
    go_region_held3 (fun _ => True) (trivial) (first
      | (go_at_call 27; refine (concat_is _ _ _ _ _ _ _ _ (L.drop kk) (L.take kk) n1 n2 (by rw [← n1.out]; omega) (by rw [← n2.out]; omega) (by rw [← n1.out, ← n2.out]; omega) _ (At.drew (At.new w2 _ 34 (o := 0) rfl)).1 (At.drew (At.new w2 _ 34 (o := 1) rfl)).1 (fun j u h => cell_later (ba hT2 (.cells #[.slice (some ⟨g, off + kk * 2, none⟩) (m - kk) (cap - kk), .slice (some ⟨g, off, none⟩) kk cap] 34)).drew (cells_of (cells_drop Hc.out kk) j u h)) (fun j u h => cell_later (ba hT2 (.cells #[.slice (some ⟨g, off + kk * 2, none⟩) (m - kk) (cap - kk), .slice (some ⟨g, off, none⟩) kk cap] 34)).drew (cells_of (cells_take Hc.out kk) j u h))).mono ?_; rintro e' w3 ⟨v3, rfl, ho3, hb3⟩; have hr3 := reads_owned ho3)
      | (go_at_call 23; refine (union_same hr3 (fun p hp => HO.out p (mem_turn hp)) (by rw [List.length_append, ← n1.out, ← n2.out]; omega) HG.out (fun x => by rw [HC.out x, covP_turn]) HW.out).mono ?_; rintro e' w4 ⟨v4, rfl, hr4, hb4⟩))
    obtain ⟨v4a, v4c, rfl⟩ := hr4.slice
    have hT4 : Below w.heap.size w w4 := bt (bt (ba hT2 (.cells #[.slice (some ⟨g, off + kk * 2, none⟩) (m - kk) (cap - kk), .slice (some ⟨g, off, none⟩) kk cap] 34)).drew hb3) hb4
    go_wp2_with fail
    refine (concat_is _ _ _ _ _ _ _ _ L (L.drop kk) n3 n1 (by rw [HL.out]; omega) (by rw [← n1.out]; omega) (by rw [HL.out]; omega) _ (At.new w4 _ 34 (o := 0) rfl).1 (At.new w4 _ 34 (o := 1) rfl).1 (fun j u h => cell_later (ba hT4 (.cells #[.slice (some ⟨g, off, none⟩) m cap, .slice (some ⟨g, off + kk * 2, none⟩) (m - kk) (cap - kk)] 34)) (cells_of Hc.out j u h)) (fun j u h => cell_later (ba hT4 (.cells #[.slice (some ⟨g, off, none⟩) m cap, .slice (some ⟨g, off + kk * 2, none⟩) (m - kk) (cap - kk)] 34)) (cells_of (cells_drop Hc.out kk) j u h))).mono ?_
    rintro e' w5 ⟨v5, rfl, ho5, hb5⟩
    have hr5 := reads_owned ho5
    have hT5 : Below w.heap.size w w5 := bt (ba hT4 (.cells #[.slice (some ⟨g, off, none⟩) m cap, .slice (some ⟨g, off + kk * 2, none⟩) (m - kk) (cap - kk)] 34)) hb5
    go_wp2_with fail
    refine (union_same hr5 (fun p hp => HO.out p (mem_twice hp)) (by rw [List.length_append, ← n1.out, HL.out]; omega) HG.out (fun x => by rw [HC.out x, covP_twice]) HW.out).mono ?_
    rintro e' w6 ⟨v6, rfl, hr6, hb6⟩
    obtain ⟨v6a, v6c, rfl⟩ := hr6.slice
    have hT6 := bt hT5 hb6
    have hU26 : Below w2.heap.size w2 w6 := bt (bt (bt (bt (ba (Below.refl _ _) (.cells #[.slice (some ⟨g, off + kk * 2, none⟩) (m - kk) (cap - kk), .slice (some ⟨g, off, none⟩) kk cap] 34)).drew hb3) hb4) (bt ((Below.refl _ _).alloc (Nat.le_refl _) (.cells #[.slice (some ⟨g, off, none⟩) m cap, .slice (some ⟨g, off + kk * 2, none⟩) (m - kk) (cap - kk)] 34)) hb5)) hb6
    have hU16 := bt hb2 hU26
    have hU46 : Below w4.heap.size w4 w6 := bt (bt ((Below.refl _ _).alloc (Nat.le_refl _) (.cells #[.slice (some ⟨g, off, none⟩) m cap, .slice (some ⟨g, off + kk * 2, none⟩) (m - kk) (cap - kk)] 34)) hb5) hb6
    have ru := hrv.later hU16
    have r2 := hr2.later hU26
    have r4 := hr4.later hU46
    go_wp2_with fail
    refine (alive_any _).mono ?_
    rintro e' w7 ⟨rfl, hb7⟩
    have ru7 := ru.later hb7
    go_wp2_with fail
    refine (same_yes (r2.later hb7) ru7).mono ?_
    rintro e' w8 ⟨rfl, hb8⟩
    have ru8 := ru7.later hb8
    go_wp2_with fail
    refine (same_yes ((r4.later hb7).later hb8) ru8).mono ?_
    rintro e' w9 ⟨rfl, hb9⟩
    go_wp2_with fail
    refine (same_yes (((hr6.later hb7).later hb8).later hb9) (ru8.later hb9)).mono ?_
    rintro e' w10 ⟨rfl, hb10⟩
    go_wp2
    go_ret
    exact ⟨rfl, bt (bt (bt (bt hT6 hb7) hb8) hb9) hb10⟩
  · have hw : ∃ z ∈ zs, Whole z := by simpa using hnw
    clear hnw
    obtain ⟨hb1, ⟨v, hn', _, _⟩ | ⟨_, rfl⟩⟩ := hS
    · obtain ⟨z, hz, hzw⟩ := hw
      exact absurd hzw (hn' z hz)
    clear hw
    go_wp2_with fail
    refine (alive_any _).mono ?_
    rintro e' w2 ⟨rfl, hb2⟩
    go_wp2
    go_ret
    exact ⟨rfl, bt hb1 hb2⟩

theorem tmod_facts (k : Int) (m : Nat) (h : 1 ≤ m) : ∃ (t : Int) (kk : Nat), k.tmod (m : Int) = t ∧ -(m : Int) < t ∧ t < (m : Int) ∧ (t + (m : Int)) % (m : Int) = (kk : Int) ∧ kk < m := by
  have hm : (0 : Int) < (m : Int) := by omega
  have h1 : k.tmod (m : Int) < (m : Int) := Int.tmod_lt_of_pos k hm
  have h2 : -(m : Int) < k.tmod (m : Int) := by
    have := Int.tmod_lt_of_pos (-k) hm
    rw [Int.neg_tmod] at this
    omega
  have h3 := Int.emod_nonneg (k.tmod (m : Int) + (m : Int)) (show (m : Int) ≠ 0 by omega)
  have h4 := Int.emod_lt_of_pos (k.tmod (m : Int) + (m : Int)) hm
  exact ⟨_, ((k.tmod (m : Int) + (m : Int)) % (m : Int)).toNat, rfl, h2, h1, by omega, by omega⟩

/-- The first part of a row. -/
theorem order_any (v : Value) (k : Int) (w : World) (h : v = .slice none 0 0 ∨ ∃ (a : Addr) (len cap : Nat) (L : List (Int × Int)), v = .slice (some a) len cap ∧ len ≤ cap ∧ cap ≤ maxLen ∧ L.length = len ∧ (∀ q ∈ L, NumP q) ∧
      ∀ j (hj : j < L.length), w.cell? (a.add (j * 2)) = some (.int .u64 L[j].1) ∧ w.cell? (a.add (j * 2 + 1)) = some (.int .u64 L[j].2)) :
    Calls Try.prog 8 #[v, .int .i64 k] w fun e w' => e = .returned (.bool true) ∧ Below w.heap.size w w' := by
  rcases h with rfl | ⟨⟨g, off, s⟩, len, cap, L, rfl, hlc, hcm, hL, hn, hc⟩
  · exact order_nil k w
  · have hcm' : cap ≤ 9223372036854775807 := by unfold maxLen at hcm; omega
    by_cases h0 : len = 0
    · subst h0
      exact order_zero g off cap s hcm' k w
    · have hs : s = none := by
        have := (hc 0 (by omega)).1
        simpa [Addr.add] using World.cell?_spot this
      subst hs
      have hc' : ∀ j (hj : j < L.length), w.cell? ⟨g, off + j * 2, none⟩ = some (.int .u64 L[j].1) ∧ w.cell? ⟨g, off + j * 2 + 1, none⟩ = some (.int .u64 L[j].2) := fun j hj => by
        have := hc j hj
        rw [Go.WideShapes.add_plain, Go.WideShapes.add_plain, ← Nat.add_assoc] at this
        exact this
      have hg : g < w.heap.size := World.block_lt_of_cell? _ _ (hc' 0 (by omega)).1
      obtain ⟨m, hm⟩ : ∃ m : Nat, m = min len 12 := ⟨_, rfl⟩
      have hLm : (L.take m).length = m := by rw [List.length_take]; omega
      obtain ⟨t, kk, ht, t1, t2, hkt, hkk⟩ := tmod_facts k m (by omega)
      rcases okP_or (L.take m) (fun p hp => hn p (List.mem_of_mem_take hp)) with hok | ⟨e, he⟩
      · exact order_ok_any (L.take m) len m k g off cap w (by omega) (by omega) (by omega) (by omega) hLm hlc hcm' hg (cells_take hc' m) hok kk hkk t ht t1 t2 hkt
      · exact order_bad_any (L.take m) len m k g off cap w (by omega) (by omega) (by omega) (by omega) hLm hlc hcm' hg (cells_take hc' m) e he

end Go.Proofs.Ytkaenoejfdcokaa
