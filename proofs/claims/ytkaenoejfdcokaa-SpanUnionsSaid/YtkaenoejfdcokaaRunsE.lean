/- The reference's Runs of whatever row, and its Union. -/
import Derived.Test.YtkaenoejfdcokaaRunsD
namespace Go.Proofs.Ytkaenoejfdcokaa
open Go.RowKit Go.Shelf

def RunsPost (w : World) (zs : List E64) (e : Ending) (w' : World) : Prop := ∃ v, e = .returned v ∧ w'.ownsRow w.heap.size 49 2 v zs.length (rowCells (endPairs zs)) ∧ Below w.heap.size w w'
set_option maxRecDepth 100000 in
set_option maxHeartbeats 2000000 in
theorem runs_nil (a : Option Addr) (c : Nat) (w : World) : Calls Try.prog 24 #[.slice a 0 c] w (RunsPost w []) := by
  go_enter Try.func24, Try.ntmps24
  go_wp2
  go_loopw [3, 15] (fun sv i wr => i = .int .i64 0 ∧ sv = .slice (some ⟨w.heap.size, 0, none⟩) 0 0 ∧ wr = w.alloc (.cells #[] 49)) (fun _ _ _ => 0)
  case atStart => exact ⟨rfl, rfl, rfl⟩
  case round =>
    obtain ⟨rfl, rfl, rfl⟩ := hrel
    go_wp2
    go_ret
    exact ⟨_, rfl, owns_empty (World.alloc_heap_new _ _) (Nat.le_refl _), ba (Below.refl _ _) _⟩
theorem runs_any {w : World} {v : Value} {L : List (Int × Int)} {zs : List E64} (h : Reads w v L) (hok : ∀ p ∈ L, OkP p) (hl : L.length ≤ 4096) (hzl : zs.length ≤ 4096) (hG : Gaps zs) (hC : ∀ x, cov zs x ↔ covP L x) :
    Calls Try.prog 24 #[v] w (RunsPost w zs) := by
  obtain ⟨_, ⟨a, c, rfl, rfl⟩ | ⟨g, off, cap, rfl, hg, hc⟩⟩ := h
  · have : zs = [] := gaps_unique zs [] hG List.Pairwise.nil (fun x => by rw [hC x]; exact ⟨fun ⟨p, hp, _⟩ => (by cases hp), fun h => absurd h (cov_nil x)⟩)
    subst this
    exact runs_nil a c w
  · exact runs_is L zs hl g off cap w hg hzl hc hok hG hC
theorem spanPairs_snoc (zs : List E64) (x : E64) : rowCells (spanPairs (zs ++ [x])) = rowCells (spanPairs zs) ++ [.int .u64 x.1.1, .int .u64 (x.1.2 - x.1.1 + 1)] := by simp [spanPairs, rowCells]

theorem own_ne {W : World} {b b' g1 g2 n n' c c' s s' : Nat} {e e' : TypeId} {xs ys : List Value} (h : W.ownsRow b e s (.slice (some ⟨g1, 0, none⟩) n c) n xs) (h' : W.ownsRow b' e' s' (.slice (some ⟨g2, 0, none⟩) n' c') n' ys) (he : e ≠ e') : g1 ≠ g2 := by
  obtain ⟨_, ⟨x, _⟩ | ⟨_, _, _, x, _, hh, _⟩⟩ := h
  · cases x
  obtain ⟨_, ⟨y, _⟩ | ⟨_, _, _, y, _, hh', _⟩⟩ := h'
  · cases y
  cases x
  cases y
  intro e0
  subst e0
  rw [hh] at hh'
  cases hh'
  exact he rfl
theorem spanPairs_take (zs : List E64) (k : Nat) (h : k < zs.length) : rowCells (spanPairs (zs.take (k + 1))) = rowCells (spanPairs (zs.take k)) ++ [.int .u64 (zs[k]).1.1, .int .u64 ((zs[k]).1.2 - (zs[k]).1.1 + 1)] := by
  rw [← List.take_append_getElem h, spanPairs_snoc]

set_option maxRecDepth 100000 in
set_option maxHeartbeats 4000000 in
theorem runion_any {w : World} {a : Option Addr} {n c : Nat} {L : List (Int × Int)} {zs : List E64} (hr : Reads w (.slice a n c) L) (hok : ∀ p ∈ L, OkP p) (hl : L.length ≤ 4096) (hzl : zs.length ≤ 4096) (hG : Gaps zs) (hC : ∀ x, cov zs x ↔ covP L x) (hnw : ∀ z ∈ zs, ¬ Whole z) :
    Calls Try.prog 25 #[.slice a n c] w (RowPost w (spanPairs zs)) := by
  obtain ⟨i1, hi, hz0, hz1, hz2⟩ := info_parts info24
  have hr1 := hr.later ((Below.refl _ _).alloc (Nat.le_refl _) (.cells #[] 24))
  have HO := Lib.hid hok
  have HG := Lib.hid hG
  have HC := Lib.hid hC
  have HW := Lib.hid hnw
  clear hok hG hC hnw hr
  go_enter Try.func25, Try.ntmps25
  go_wp2_with fail
  with_reducible refine (runs_any hr1 HO.out hl hzl HG.out HC.out).mono ?_
  rintro e w1 ⟨v, rfl, hown, hb1⟩
  have howne : (w.alloc (.cells #[] 24)).ownsRow w.heap.size 24 2 (.slice (some ⟨w.heap.size, 0, none⟩) 0 0) 0 [] := owns_empty (World.alloc_heap_new _ _) (Nat.le_refl _)
  have hown1 := ownsRow_below howne hb1
  have hbw : Below w.heap.size w w1 := bt (ba (Below.refl _ _) _) hb1
  by_cases h0 : zs = []
  · subst h0
    obtain ⟨va, vn, vc, rfl⟩ := ownsRow_slice hown
    have hvn : vn = 0 := by
      obtain ⟨_, ⟨e, _⟩ | ⟨_, _, _, e, _⟩⟩ := hown <;> cases e <;> rfl
    subst hvn
    go_wp2
    go_loopw [3, 10] (fun sv i wr => i = .int .i64 0 ∧ sv = .slice (some ⟨w.heap.size, 0, none⟩) 0 0 ∧ wr = w1) (fun _ _ _ => 0)
    case atStart => exact ⟨rfl, rfl, rfl⟩
    case round =>
      obtain ⟨rfl, rfl, rfl⟩ := hrel
      go_wp2
      go_ret
      exact ⟨_, rfl, hown1, hbw⟩
  · obtain ⟨g1, c1, rfl⟩ := own_some hown (fun e => h0 (List.length_eq_zero_iff.1 e))
    clear h0
    obtain ⟨_, _, hlc, hcm, _, _⟩ := own_row hown
    unfold maxLen at hcm
    go_wp2
    go_loopw [3, 10] (fun sv i wr => ∃ k : Nat, k ≤ zs.length ∧ i = .int .i64 k ∧ wr.ownsRow w.heap.size 24 2 sv k (rowCells (spanPairs (zs.take k))) ∧ (∃ g2 c2, sv = .slice (some ⟨g2, 0, none⟩) k c2) ∧ wr.ownsRow (w.alloc (.cells #[] 24)).heap.size 49 2 (.slice (some ⟨g1, 0, none⟩) zs.length c1) zs.length (rowCells (endPairs zs)) ∧ Below w.heap.size w wr) (fun _ i _ => zs.length - (intOf i).toNat)
    case atStart => exact ⟨0, Nat.zero_le _, rfl, hown1, ⟨_, _, rfl⟩, hown, hbw⟩
    case round =>
      obtain ⟨k, hk, rfl, ho, ⟨g2, c2, rfl⟩, hR, hb⟩ := hrel
      by_cases hlt : k < zs.length
      · obtain ⟨_, hg1, _, _, hcl, _⟩ := own_row hR
        obtain ⟨q0, q1⟩ := hcl k hlt
        clear hcl
        have HT := Lib.hid (spanPairs_take zs k hlt)
        have hx := HW.out _ (List.getElem_mem hlt)
        obtain ⟨z, hz⟩ : ∃ z, z = zs[k] := ⟨_, rfl⟩
        rw [← hz] at q0 q1 HT hx
        clear hz
        have HX := Lib.hid hx
        clear hx
        obtain ⟨z0, z1, z2⟩ := z.2
        go_wp2_with fail
        refine (of_ok z.1.1 z.1.2 _ z0 z1 z2 (fun h1 h2 => HX.out ⟨h1, h2⟩)).mono ?_
        rintro e w2 ⟨rfl, hb2⟩
        have hA : Below wr.heap.size wr (wr.alloc (.cells #[.int .u64 z.1.1, .int .u64 z.1.2] 49)) := (Below.refl _ _).alloc (Nat.le_refl _) _
        have hb12 := bt hA hb2
        have hB : Below wr.heap.size wr (w2.alloc (.cells #[.int .u64 z.1.1, .int .u64 (z.1.2 - z.1.1 + 1)] 24)) := ba hb12 _
        have ho2 := ownsRow_below ho hB
        have hR2 := ownsRow_below hR hB
        have hs2 := hb12.size
        have hbs := hb.size
        go_wp2_with (at_builtin; refine wpList_append_own _ rfl (.tmp 14) (.tmp 20) 34 rfl w.heap.size 24 i1 (.agg #[.int .u64 0, .int .u64 0]) 2 16 Try.underlying34 hi hz0 hz1 hz2 rfl (by decide) _ _ _ rfl ho2 ⟨w2.heap.size, 0, none⟩ 1 1 [.int .u64 z.1.1, .int .u64 (z.1.2 - z.1.1 + 1)] rfl rfl (cell_two_new _ _ _ _) (by simp [Value.oneCell']) (by unfold maxLen; omega) (by omega) (by simp; omega) ?_; intro v3 w3 ho3 hgr3 _; obtain ⟨g3, c3, rfl⟩ := ownsRow_succ ho3)
        have hne := own_ne hR2 ho2 (by decide)
        exact ⟨⟨k + 1, by omega, by go_num, by rw [HT.out]; exact ho3, ⟨_, _, rfl⟩, World.ownsRow.kept hR2 hgr3 (.inr (fun e => hne (Option.some.inj (show some g1 = some g2 from e)))), (bt hb hB).grown hgr3 (by simp; omega) (ownsRow_from ho2)⟩, by simp [intOf]; omega⟩
      · obtain rfl : k = zs.length := by omega
        rw [List.take_length] at ho
        go_wp2
        go_ret
        exact ⟨_, rfl, by rw [show (spanPairs zs).length = zs.length by simp [spanPairs]]; exact ho, hb⟩
end Go.Proofs.Ytkaenoejfdcokaa
