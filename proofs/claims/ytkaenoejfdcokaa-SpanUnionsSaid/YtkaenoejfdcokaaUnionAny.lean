/- Union of whatever row of spans: what it tells, or the first error. -/
import Derived.Test.YtkaenoejfdcokaaConcat
namespace Go.Proofs.Ytkaenoejfdcokaa
open Go.RowKit Go.Shelf

theorem toE_ok {p : Int × Int} (h : OkP p) : 0 ≤ (endsP p).1 ∧ (endsP p).1 ≤ (endsP p).2 ∧ (endsP p).2 ≤ 18446744073709551615 := by
  obtain ⟨h0, h1, h2⟩ := h
  exact ⟨h0, by show p.1 ≤ p.1 + (p.2 - 1); omega, by show p.1 + (p.2 - 1) ≤ _; omega⟩
/-- The ends of spans that may be. -/
def toE (L : List (Int × Int)) (h : ∀ p ∈ L, OkP p) : List E64 := L.pmap (fun p hp => ⟨endsP p, toE_ok hp⟩) h
theorem toE_ends (L : List (Int × Int)) (h : ∀ p ∈ L, OkP p) : endPairs (toE L h) = L.map endsP := by
  unfold endPairs toE
  rw [List.map_pmap]
  simp
theorem toE_len (L : List (Int × Int)) (h : ∀ p ∈ L, OkP p) : L.length = (toE L h).length := by simp [toE]

theorem union_ok {w : World} {v : Value} {L : List (Int × Int)} (h : Reads w v L) (hok : ∀ p ∈ L, OkP p) (hl : L.length ≤ 4096) : Calls Try.prog 23 #[v] w (UnionPost w L) := by
  obtain ⟨_, ⟨a, c, rfl, rfl⟩ | ⟨g, off, cap, rfl, hg, hc⟩⟩ := h
  · exact union_nil a c w
  · exact union_cons L (toE L hok) hl g off cap w hg hc (fun j hj => hok _ (List.getElem_mem hj)) (toE_ends L hok) (toE_len L hok)

set_option maxRecDepth 100000 in
set_option maxHeartbeats 4000000 in
theorem union_stop (L : List (Int × Int)) (hl : L.length ≤ 4096) (g off c : Nat) (w : World) (hg : g < w.heap.size)
    (Hh : Hid (∀ j (hj : j < L.length), w.cell? ⟨g, off + j * 2, none⟩ = some (.int .u64 L[j].1) ∧ w.cell? ⟨g, off + j * 2 + 1, none⟩ = some (.int .u64 L[j].2)))
    (b : Nat) (hbl : b < L.length) (Ho : Hid (∀ j (hj : j < b), OkP (L[j]'(by omega)))) (Hn : Hid (NumP L[b])) (e : Int) (e1 : 1 ≤ e) (hbad : Bad L[b].1 L[b].2 e) :
    Calls Try.prog 23 #[.slice (some ⟨g, off, none⟩) L.length c] w fun e' w' => e' = .returned (.tuple #[.slice none 0 0, .int .i64 e]) ∧ Below w.heap.size w w' := by
  obtain ⟨i1, hi, hz0, hz1, hz2⟩ := info_parts info55
  go_enter Try.func23, Try.ntmps23
  go_wp2_with (at_make; refine wpList_make_own _ rfl _ _ 60 rfl w.heap.size 55 i1 (.agg #[.int .u64 0, .int .u64 0]) 2 Try.underlying60 hi hz0 hz1 .i64 .i64 _ L.length rfl rfl rfl (by rw [hz2]; omega) (by unfold maxLen; omega) (Nat.le_refl _) ?_; intro w0 hown0 hgrow0)
  have hB0 : Below w.heap.size w w0 := (Below.refl _ _).grown hgrow0 (Nat.le_refl _) (fun k e => by cases e)
  go_loopw [4, 14] (fun sv i wr => ∃ k : Nat, k ≤ b ∧ i = .int .i64 k ∧ wr.ownsRow w.heap.size 55 2 sv k (rowCells ((L.take k).map endsP)) ∧ (∃ g1 c1, sv = .slice (some ⟨g1, 0, none⟩) k c1) ∧ Below w.heap.size w wr) (fun _ i _ => b - (intOf i).toNat)
  case atStart => exact ⟨0, Nat.zero_le _, rfl, hown0, ⟨_, _, rfl⟩, hB0⟩
  case round =>
    obtain ⟨k, hk, rfl, hown, ⟨g1, c1, rfl⟩, hb⟩ := hrel
    have hkl : k < L.length := by omega
    have p0 := (hb.cell (p := ⟨g, off + k * 2, none⟩) hg).trans (Hh.out k hkl).1
    have p1 := (hb.cell (p := ⟨g, off + k * 2 + 1, none⟩) hg).trans (Hh.out k hkl).2
    by_cases hlt : k < b
    · obtain ⟨o1, o2, o3⟩ := Ho.out k hlt
      go_wp2_with fail
      refine (ends_ok _ _ _ o1 o2 o3).mono ?_
      rintro e w1 ⟨rfl, hb1⟩
      have hown1 := ownsRow_below (ownsRow_below (ownsRow_below (ownsRow_below hown ((Below.refl _ _).alloc (Nat.le_refl _) _)) hb1) ((Below.refl _ _).alloc (Nat.le_refl _) (.cells #[.int .u64 L[k].1, .int .u64 (L[k].1 + (L[k].2 - 1))] 55))) ((Below.refl _ _).alloc (Nat.le_refl _) (.cells #[.int .u64 L[k].1, .int .u64 (L[k].1 + (L[k].2 - 1))] 55))
      have hn2 := cell_two_new (w1.alloc (.cells #[.int .u64 L[k].1, .int .u64 (L[k].1 + (L[k].2 - 1))] 55)) (.int .u64 L[k].1) (.int .u64 (L[k].1 + (L[k].2 - 1))) 55
      rw [World.size_alloc] at hn2
      have hbw1 : Below w.heap.size w w1 := bt (ba hb _) hb1
      have hsw := hbw1.size
      go_wp2_with (at_builtin; refine wpList_append_own _ rfl (.tmp 26) (.tmp 28) 60 rfl w.heap.size 55 i1 (.agg #[.int .u64 0, .int .u64 0]) 2 16 Try.underlying60 hi hz0 hz1 hz2 rfl (by decide) _ _ _ rfl hown1 ⟨w1.heap.size + 1, 0, none⟩ 1 1 [.int .u64 L[k].1, .int .u64 (L[k].1 + (L[k].2 - 1))] rfl rfl hn2 (by simp [Value.oneCell']) (by unfold maxLen; omega) (by omega) (by simp; omega) ?_; intro v2 w2 hown2 hgrow2 _; obtain ⟨g2, c2, rfl⟩ := ownsRow_succ hown2)
      have hb2 : Below w.heap.size w w2 := (ba (ba hbw1 _) _).grown hgrow2 (by simp; omega) (ownsRow_from hown1)
      exact ⟨⟨k + 1, by omega, by go_num, by rw [← List.take_append_getElem hkl, List.map_append, show ([L[k]].map endsP) = [endsP L[k]] from rfl, rowCells_snoc']; exact hown2, ⟨_, _, rfl⟩, hb2⟩, by simp [intOf]; omega⟩
    · obtain rfl : k = b := by omega
      obtain ⟨o1, o2, _, o4⟩ := Hn.out
      go_wp2_with fail
      refine (ends_bad _ _ e _ o1 o2 o4 hbad e1).mono ?_
      rintro e' w1 ⟨rfl, hb1⟩
      go_wp2
      go_ret2
      exact ⟨rfl, ba (bt (ba hb _) hb1) _⟩

/-- The first error of a row of spans. -/
def ErrP (L : List (Int × Int)) (e : Int) : Prop := 1 ≤ e ∧ ∃ b, ∃ h : b < L.length, (∀ j (hj : j < b), OkP (L[j]'(by omega))) ∧ NumP L[b] ∧ Bad L[b].1 L[b].2 e
theorem union_err {w : World} {v : Value} {L : List (Int × Int)} {e : Int} (h : Reads w v L) (he : ErrP L e) (hl : L.length ≤ 4096) :
    Calls Try.prog 23 #[v] w fun e' w' => e' = .returned (.tuple #[.slice none 0 0, .int .i64 e]) ∧ Below w.heap.size w w' := by
  obtain ⟨e1, b, hb, hok, hn, hbad⟩ := he
  obtain ⟨_, ⟨a, c, rfl, rfl⟩ | ⟨g, off, cap, rfl, hg, hc⟩⟩ := h
  · exact absurd hb (Nat.not_lt_zero b)
  · exact union_stop L hl g off cap w hg hc b hb hok hn e e1 hbad
theorem first_errP {w : World} {v : Value} {L : List (Int × Int)} {e : Int} (h : Reads w v L) (he : ErrP L e) :
    Calls Try.prog 16 #[v] w fun e' w' => e' = .returned (.int .i64 e) ∧ Below w.heap.size w w' := by
  obtain ⟨e1, b, hb, hok, hn, hbad⟩ := he
  exact first_err h b hb hok hn e e1 hbad
/-- Either all spans of a row may be, or there is a first error. -/
theorem okP_or (L : List (Int × Int)) (hn : ∀ p ∈ L, NumP p) : (∀ p ∈ L, OkP p) ∨ ∃ e, ErrP L e := by
  induction L with
  | nil => exact .inl (fun p hp => by cases hp)
  | cons x L ih =>
    have hx := hn x (by simp)
    rcases span_cases x.1 x.2 hx.2.2.1 with ⟨h1, h2⟩ | ⟨e, he, hb⟩
    · have hox : OkP x := ⟨hx.1, h1, h2⟩
      rcases ih (fun p hp => hn p (by simp [hp])) with h | ⟨e, h1, b, hb, hok, hnb, hbad⟩
      · refine .inl (fun p hp => ?_)
        rcases List.mem_cons.1 hp with rfl | hp
        · exact hox
        · exact h p hp
      · refine .inr ⟨e, h1, b + 1, by simpa using hb, fun j hj => ?_, hnb, hbad⟩
        cases j with
        | zero => exact hox
        | succ j => exact hok j (by omega)
    · exact .inr ⟨e, he, 0, by simp, fun j hj => absurd hj (Nat.not_lt_zero j), hx, hb⟩

end Go.Proofs.Ytkaenoejfdcokaa
