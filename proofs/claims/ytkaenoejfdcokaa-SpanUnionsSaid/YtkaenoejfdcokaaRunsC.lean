/- The reference's Runs in plain numbers: after k spans the row holds those of the ends with gaps in which one of the k lies. -/
import Derived.Test.YtkaenoejfdcokaaRunsB
namespace Go.Proofs.Ytkaenoejfdcokaa
open Go.RowKit Go.Shelf

/-- Of the ends, those in which one of the first k spans lies. -/
def outK (zs : List E64) (L : List (Int × Int)) (k : Nat) : List E64 := zs.filter fun z => (L.take k).any fun p => decide (InR z.1 p)
theorem outK_zero (zs : List E64) (L : List (Int × Int)) : outK zs L 0 = [] := by simp [outK]
theorem mem_outK {zs : List E64} {L : List (Int × Int)} {k : Nat} {y : E64} : y ∈ outK zs L k ↔ y ∈ zs ∧ ∃ p ∈ L.take k, InR y.1 p := by simp [outK]
theorem outK_gaps {zs : List E64} (hG : Gaps zs) (L : List (Int × Int)) (k : Nat) : Gaps (outK zs L k) := List.Pairwise.filter _ hG
theorem outK_len (zs : List E64) (L : List (Int × Int)) (k : Nat) : (outK zs L k).length ≤ zs.length := List.length_filter_le _ _
/-- A span that lies in two of the ends. -/
theorem in_two {zs : List E64} (hG : Gaps zs) {y z : E64} (hy : y ∈ zs) (hz : z ∈ zs) {p : Int × Int} (hp : OkP p) (h1 : InR y.1 p) (h2 : InR z.1 p) : y = z := by
  obtain ⟨a, b⟩ := h1
  obtain ⟨c, d⟩ := h2
  obtain ⟨_, e, _⟩ := hp
  unfold endOf at b d
  exact gaps_touch hG hy hz (by omega) (by omega)
theorem outK_all {zs : List E64} {L : List (Int × Int)} (hG : Gaps zs) (hc : ∀ x, cov zs x ↔ covP L x) (hok : ∀ p ∈ L, OkP p) : outK zs L L.length = zs := by
  unfold outK
  rw [List.filter_eq_self]
  intro z hz
  rw [List.take_length]
  obtain ⟨p, hp, p1, p2⟩ := (hc z.1.1).1 ⟨z, hz, Int.le_refl _, z.2.2.1⟩
  obtain ⟨y, hy, hin⟩ := span_in hG hc hok hp
  have hyz : y = z := gaps_touch hG hy hz (by have := hin.1; have := z.2.2.1; omega) (by have := hin.2; unfold endOf at this; omega)
  subst hyz
  rw [List.any_eq_true]
  exact ⟨p, hp, decide_eq_true hin⟩
theorem outK_mem_succ {zs : List E64} {L : List (Int × Int)} (hG : Gaps zs) (hok : ∀ p ∈ L, OkP p) {k : Nat} (hk : k < L.length) {z : E64} (hz : z ∈ zs) (hin : InR z.1 L[k]) {y : E64} : y ∈ outK zs L (k + 1) ↔ y ∈ outK zs L k ∨ y = z := by
  rw [mem_outK, mem_outK, ← List.take_append_getElem hk]
  constructor
  · rintro ⟨h1, p, hp, h2⟩
    rcases List.mem_append.1 hp with hp | hp
    · exact .inl ⟨h1, p, hp, h2⟩
    · rw [List.mem_singleton.1 hp] at h2
      exact .inr (in_two hG h1 hz (hok _ (List.getElem_mem hk)) h2 hin)
  · rintro (⟨h1, p, hp, h2⟩ | rfl)
    · exact ⟨h1, p, List.mem_append.2 (.inl hp), h2⟩
    · exact ⟨hz, _, List.mem_append.2 (.inr (List.mem_singleton.2 rfl)), hin⟩
theorem cov_congr {U V : List E64} (h : ∀ y, y ∈ U ↔ y ∈ V) (x : Int) : cov U x ↔ cov V x :=
  ⟨fun ⟨s, hs, hx⟩ => ⟨s, (h s).1 hs, hx⟩, fun ⟨s, hs, hx⟩ => ⟨s, (h s).2 hs, hx⟩⟩
theorem outK_there {zs : List E64} {L : List (Int × Int)} (hG : Gaps zs) (hok : ∀ p ∈ L, OkP p) {k : Nat} (hk : k < L.length) {z : E64} (hz : z ∈ zs) (hin : InR z.1 L[k]) (ht : z ∈ outK zs L k) : outK zs L (k + 1) = outK zs L k :=
  gaps_unique _ _ (outK_gaps hG L _) (outK_gaps hG L _) (cov_congr fun y => by
    rw [outK_mem_succ hG hok hk hz hin]
    exact ⟨fun h => h.elim id (fun e => by rw [e]; exact ht), .inl⟩)

/-- The place of a run in a row, as far as j. -/
def PlaceOk (O : List E64) (z : E64) (j pl : Nat) : Prop := pl ≤ j ∧ (∀ i (h : i < O.length), i < pl → O[i].1.1 < z.1.1) ∧ ∀ i (h : i < O.length), pl ≤ i → i < j → z.1.1 ≤ O[i].1.1
theorem place_zero (O : List E64) (z : E64) : PlaceOk O z 0 0 := ⟨Nat.le_refl _, fun i _ h => absurd h (Nat.not_lt_zero i), fun i _ _ h => absurd h (Nat.not_lt_zero i)⟩
theorem gaps_get {O : List E64} (hG : Gaps O) {i j : Nat} (hj : j < O.length) (hij : i < j) : (O[i]'(by omega)).1.2 + 1 < O[j].1.1 := List.pairwise_iff_getElem.1 hG i j (by omega) hj hij
theorem place_lt {O : List E64} {z : E64} {j pl : Nat} (hG : Gaps O) (h : PlaceOk O z j pl) (hj : j < O.length) (hlt : O[j].1.1 < z.1.1) : PlaceOk O z (j + 1) (j + 1) := by
  refine ⟨Nat.le_refl _, fun i hi h' => ?_, fun i _ a b => absurd a (by omega)⟩
  rcases (show i < j ∨ i = j by omega) with h1 | rfl
  · have := gaps_get hG hj h1
    have := (O[i]).2.2.1
    omega
  · exact hlt
theorem place_ge {O : List E64} {z : E64} {j pl : Nat} (h : PlaceOk O z j pl) (hj : j < O.length) (hge : ¬ O[j].1.1 < z.1.1) : PlaceOk O z (j + 1) pl := by
  obtain ⟨a, b, c⟩ := h
  refine ⟨by omega, b, fun i hi h1 h2 => ?_⟩
  rcases (show i < j ∨ i = j by omega) with h3 | rfl
  · exact c i hi h1 h3
  · omega
theorem outK_put {zs : List E64} {L : List (Int × Int)} (hG : Gaps zs) (hok : ∀ p ∈ L, OkP p) {k : Nat} (hk : k < L.length) {z : E64} (hz : z ∈ zs) (hin : InR z.1 L[k]) (ht : z ∉ outK zs L k) {pl : Nat} (hp : PlaceOk (outK zs L k) z (outK zs L k).length pl) :
    (outK zs L k).take pl ++ z :: (outK zs L k).drop pl = outK zs L (k + 1) := by
  obtain ⟨_, p1, p2⟩ := hp
  have hO : ∀ y ∈ outK zs L k, y ∈ zs := fun y hy => (mem_outK.1 hy).1
  refine gaps_unique _ _ ?_ (outK_gaps hG L _) (cov_congr fun y => ?_)
  · have hg := outK_gaps hG L k
    rw [← List.take_append_drop pl (outK zs L k)] at hg
    obtain ⟨g1, g2, g3⟩ := List.pairwise_append.1 hg
    refine List.pairwise_append.2 ⟨g1, List.pairwise_cons.2 ⟨fun y hy => ?_, g2⟩, fun y hy u hu => ?_⟩
    · obtain ⟨i, hi, rfl⟩ := List.getElem_of_mem hy
      rw [List.length_drop] at hi
      rw [List.getElem_drop] at *
      have hmem : (outK zs L k)[pl + i] ∈ outK zs L k := List.getElem_mem (by omega)
      have h1 := p2 (pl + i) (by omega) (by omega) (by omega)
      rcases (show z.1.2 + 1 < (outK zs L k)[pl + i].1.1 ∨ (outK zs L k)[pl + i].1.1 ≤ z.1.2 + 1 by omega) with h | h
      · exact h
      · refine absurd hmem ?_
        rw [gaps_touch hG (hO _ hmem) hz h (by have := ((outK zs L k)[pl + i]).2.2.1; omega)]
        exact ht
    · rcases List.mem_cons.1 hu with rfl | hu
      · obtain ⟨i, hi, rfl⟩ := List.getElem_of_mem hy
        rw [List.length_take] at hi
        rw [List.getElem_take] at *
        have hmem : (outK zs L k)[i] ∈ outK zs L k := List.getElem_mem (by omega)
        have h1 := p1 i (by omega) (by omega)
        rcases (show (outK zs L k)[i].1.2 + 1 < u.1.1 ∨ u.1.1 ≤ (outK zs L k)[i].1.2 + 1 by omega) with h | h
        · exact h
        · refine absurd hmem ?_
          rw [gaps_touch hG (hO _ hmem) hz (by have := u.2.2.1; omega) h]
          exact ht
      · exact g3 y hy u hu
  · rw [outK_mem_succ hG hok hk hz hin, List.mem_append, List.mem_cons]
    conv => rhs; rw [← List.take_append_drop pl (outK zs L k), List.mem_append]
    constructor
    · rintro (h | h | h)
      · exact .inl (.inl h)
      · exact .inr h
      · exact .inl (.inr h)
    · rintro ((h | h) | h)
      · exact .inl h
      · exact .inr (.inr h)
      · exact .inr (.inl h)
/-- Is a run in the first j of a row? -/
def thereB (O : List E64) (z : E64) (j : Nat) : Bool := (O.take j).any fun o => decide (o = z)
theorem there_zero (O : List E64) (z : E64) : thereB O z 0 = false := by simp [thereB]
theorem there_succ {O : List E64} {z : E64} {j : Nat} (hj : j < O.length) : thereB O z (j + 1) = (thereB O z j || decide (O[j] = z)) := by
  unfold thereB
  rw [← List.take_append_getElem hj, List.any_append]
  simp
theorem there_all {O : List E64} {z : E64} : thereB O z O.length = true ↔ z ∈ O := by
  unfold thereB
  rw [List.take_length, List.any_eq_true]
  constructor
  · rintro ⟨y, hy, h⟩
    rw [← of_decide_eq_true h]; exact hy
  · exact fun h => ⟨z, h, decide_eq_true rfl⟩
/-- Two of the ends that differ begin apart. -/
theorem first_ne {zs : List E64} (hG : Gaps zs) {y z : E64} (hy : y ∈ zs) (hz : z ∈ zs) (h : y ≠ z) : y.1.1 ≠ z.1.1 := fun e =>
  h (gaps_touch hG hy hz (by have := z.2.2.1; omega) (by have := y.2.2.1; omega))
theorem endPairs_put (O : List E64) (z : E64) (pl : Nat) : endPairs (O.take pl ++ z :: O.drop pl) = (endPairs O).take pl ++ z.1 :: (endPairs O).drop pl := by
  simp [endPairs, List.map_take, List.map_drop]
end Go.Proofs.Ytkaenoejfdcokaa
