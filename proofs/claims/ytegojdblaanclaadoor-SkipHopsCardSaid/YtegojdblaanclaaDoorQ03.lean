/- Texts of this seat, one behind the other: IHops, ISearch, VTz, TSlot, CMath, CPass, CNumber, CFMath, CField. -/
import Derived.Lib.TrailingZeros
import Derived.Laws.Bits64b
import Derived.Below
import GoSem.Op.String
import Derived.Outline
import Derived.Laws.MakeOwn
import Derived.Lib.BufferWrite
import Derived.Test.YtegojdblaanclaaDoorQ01
import Derived.Test.YtegojdblaanclaaDoorQ02
/- The hops of a search among items of some heights, in plain lists. Nothing of any function. -/
namespace Go.Proofs.YtegojdblaanclaaDoor

/-- A search looks at an item, on a level: the place from which it looks on, and the hops so far. -/
def istp (H : List Nat) (lev : Nat) (s : Nat × List HopL) (i : Nat) : Nat × List HopL := if lev < H.getD i 0 then (i + 1, s.2 ++ [(lev, i)]) else s
/-- .. at so many items from a place on; .. at all of them. -/
def iinn (H : List Nat) (lev b d : Nat) (s : Nat × List HopL) : Nat × List HopL := (List.range' b d).foldl (istp H lev) s
def ilev (H : List Nat) (lev : Nat) (s : Nat × List HopL) : Nat × List HopL := iinn H lev s.1 (H.length - s.1) s
/-- Behind so many levels, from the seventh on down; behind all. -/
def ilv (H : List Nat) : Nat → Nat × List HopL
  | 0 => (0, [])
  | j + 1 => ilev H (7 - j) (ilv H j)
def ihops (H : List Nat) : List HopL := (ilv H 8).2

theorem iinn_zero (H : List Nat) (lev b : Nat) (s : Nat × List HopL) : iinn H lev b 0 s = s := rfl
theorem iinn_more (H : List Nat) (lev b d : Nat) (s : Nat × List HopL) : iinn H lev b (d + 1) s = istp H lev (iinn H lev b d s) (b + d) := by
  simp [iinn, List.range'_concat]
theorem iinn_add (H : List Nat) (lev b d e : Nat) (s : Nat × List HopL) : iinn H lev b (d + e) s = iinn H lev (b + d) e (iinn H lev b d s) := by
  induction e with
  | zero => rfl
  | succ e ih => rw [← Nat.add_assoc, iinn_more, ih, iinn_more, Nat.add_assoc]
theorem istp_yes {H : List Nat} {lev i : Nat} (s : Nat × List HopL) (h : lev < H.getD i 0) : istp H lev s i = (i + 1, s.2 ++ [(lev, i)]) := by rw [istp, if_pos h]
theorem istp_no {H : List Nat} {lev i : Nat} (s : Nat × List HopL) (h : ¬ lev < H.getD i 0) : istp H lev s i = s := by rw [istp, if_neg h]
theorem iinn_quiet {H : List Nat} {lev b : Nat} (s : Nat × List HopL) : ∀ {d : Nat}, (∀ j, b ≤ j → j < b + d → ¬ lev < H.getD j 0) → iinn H lev b d s = s := by
  intro d
  induction d with
  | zero => intro _; rfl
  | succ d ih =>
    intro h
    rw [iinn_more, ih (fun j a c => h j a (by omega)), istp_no _ (h (b + d) (by omega) (by omega))]
/-- A search ends on a level. -/
theorem ilev_quiet {H : List Nat} {lev : Nat} {s : Nat × List HopL} (h : ∀ j, s.1 ≤ j → j < H.length → ¬ lev < H.getD j 0) : ilev H lev s = s := by
  rw [ilev]
  exact iinn_quiet s fun j a c => h j a (by omega)
/-- A search hops, and goes on. -/
theorem ilev_hop {H : List Nat} {lev i : Nat} {s : Nat × List HopL} (hi : i < H.length) (hs : s.1 ≤ i) (h : ∀ j, s.1 ≤ j → j < i → ¬ lev < H.getD j 0) (hh : lev < H.getD i 0) : ilev H lev s = ilev H lev (i + 1, s.2 ++ [(lev, i)]) := by
  rw [ilev, show H.length - s.1 = (i - s.1) + (1 + (H.length - (i + 1))) by omega, iinn_add, iinn_quiet s (fun j a c => h j a (by omega)), iinn_add, show s.1 + (i - s.1) = i by omega, show iinn H lev i 1 s = istp H lev s i from rfl, istp_yes s hh]
  rfl

/-- What hops are like: they go on, and never up, on levels that may be, and end ahead of where one looks on. -/
def IGood (lev : Nat) (s : Nat × List HopL) : Prop :=
  (∀ i, i < s.2.length → (s.2.getD i (0, 0)).1 ≤ 7 ∧ lev ≤ (s.2.getD i (0, 0)).1 ∧ (s.2.getD i (0, 0)).2 < s.1) ∧
  (∀ i, i < s.2.length → 0 < i → (s.2.getD (i - 1) (0, 0)).2 < (s.2.getD i (0, 0)).2 ∧ (s.2.getD i (0, 0)).1 ≤ (s.2.getD (i - 1) (0, 0)).1) ∧
  (s.1 = 0 ↔ s.2 = []) ∧ (s.2 ≠ [] → (s.2.getD (s.2.length - 1) (0, 0)).2 + 1 = s.1)
theorem IGood.low {lev lev' : Nat} {s : Nat × List HopL} (h : IGood lev s) (hl : lev' ≤ lev) : IGood lev' s :=
  ⟨fun i hi => ⟨(h.1 i hi).1, Nat.le_trans hl (h.1 i hi).2.1, (h.1 i hi).2.2⟩, h.2⟩
theorem IGood.hop {lev i : Nat} {s : Nat × List HopL} (h : IGood lev s) (h7 : lev ≤ 7) (hi : s.1 ≤ i) : IGood lev (i + 1, s.2 ++ [(lev, i)]) := by
  have a0 : ∀ k, k < s.2.length → (s.2 ++ [(lev, i)]).getD k (0, 0) = s.2.getD k (0, 0) := fun k hk => by simp [List.getD, List.getElem?_append, hk]
  have a1 : (s.2 ++ [(lev, i)]).getD s.2.length (0, 0) = (lev, i) := by simp [List.getD]
  refine ⟨fun k hk => ?_, fun k hk hp => ?_, by simp, fun _ => ?_⟩
  · simp only [List.length_append, List.length_singleton] at hk
    rcases Nat.lt_or_ge k s.2.length with h1 | h1
    · simp only [a0 k h1]
      have := h.1 k h1
      exact ⟨this.1, this.2.1, by omega⟩
    · obtain rfl : k = s.2.length := by omega
      simp only [a1]
      exact ⟨h7, Nat.le_refl _, by omega⟩
  · simp only [List.length_append, List.length_singleton] at hk
    rcases Nat.lt_or_ge k s.2.length with h1 | h1
    · simp only [a0 k h1, a0 (k - 1) (by omega)]
      exact h.2.1 k h1 hp
    · obtain rfl : k = s.2.length := by omega
      simp only [a1, a0 (s.2.length - 1) (by omega)]
      have := h.1 (s.2.length - 1) (by omega)
      exact ⟨by omega, this.2.1⟩
  · simp only [List.length_append, List.length_singleton, Nat.add_sub_cancel, a1]
theorem iinn_good {H : List Nat} {lev b : Nat} {s : Nat × List HopL} (h : IGood lev s) (h7 : lev ≤ 7) (hb : s.1 ≤ b) : ∀ d, IGood lev (iinn H lev b d s) ∧ (iinn H lev b d s).1 ≤ b + d := by
  intro d
  induction d with
  | zero => exact ⟨h, by rw [iinn_zero]; omega⟩
  | succ d ih =>
    rw [iinn_more]
    by_cases hh : lev < H.getD (b + d) 0
    · rw [istp_yes _ hh]
      exact ⟨ih.1.hop h7 ih.2, by show b + d + 1 ≤ _; omega⟩
    · rw [istp_no _ hh]
      exact ⟨ih.1, by omega⟩
theorem ilv_good (H : List Nat) : ∀ j, j ≤ 8 → IGood (8 - j) (ilv H j) ∧ (ilv H j).1 ≤ H.length := by
  intro j
  induction j with
  | zero => intro _; exact ⟨⟨fun i hi => absurd hi (by simp [ilv]), fun i hi => absurd hi (by simp [ilv]), by simp [ilv], by simp [ilv]⟩, Nat.zero_le _⟩
  | succ j ih =>
    intro hj
    obtain ⟨h1, h2⟩ := ih (by omega)
    have h3 := iinn_good (H := H) (lev := 7 - j) (h1.low (by omega)) (by omega) (Nat.le_refl _) (H.length - (ilv H j).1)
    rw [show 8 - (j + 1) = 7 - j by omega]
    exact ⟨h3.1, by have := h3.2; rw [ilv, ilev]; omega⟩
/-- On the lowest level one comes behind the last item. -/
theorem iinn_all {H : List Nat} {b : Nat} {s : Nat × List HopL} : ∀ {d : Nat}, (∀ j, b ≤ j → j < b + d → 0 < H.getD j 0) → 0 < d → (iinn H 0 b d s).1 = b + d := by
  intro d h hd
  obtain ⟨e, rfl⟩ : ∃ e, d = e + 1 := ⟨d - 1, by omega⟩
  rw [iinn_more, istp_yes _ (h (b + e) (by omega) (by omega))]
  rfl
theorem ihops_good (H : List Nat) : IGood 0 (ilv H 8) := (ilv_good H 8 (Nat.le_refl _)).1
theorem ihops_end {H : List Nat} (h : ∀ j, j < H.length → 0 < H.getD j 0) : (ilv H 8).1 = H.length := by
  have h1 := (ilv_good H 7 (by omega)).2
  show (iinn H 0 (ilv H 7).1 (H.length - (ilv H 7).1) (ilv H 7)).1 = H.length
  rcases Nat.lt_or_ge (ilv H 7).1 H.length with h2 | h2
  · rw [iinn_all (fun j _ hj => h j (by omega)) (by omega)]; omega
  · rw [show H.length - (ilv H 7).1 = 0 by omega, iinn_zero]; omega
theorem ihops_none {H : List Nat} (h : ∀ j, j < H.length → 0 < H.getD j 0) : ihops H = [] ↔ H = [] := by
  have h1 := (ihops_good H).2.2.1
  rw [ihops_end h] at h1
  rw [ihops, ← h1, List.length_eq_zero_iff]
theorem ihops_last {H : List Nat} (h : ∀ j, j < H.length → 0 < H.getD j 0) (h0 : 0 < H.length) : ((ihops H).getD ((ihops H).length - 1) (0, 0)).2 + 1 = H.length := by
  have h1 := (ihops_good H).2.2.2 (fun e => by have := (ihops_none h).1 e; rw [this] at h0; simp at h0)
  rwa [ihops_end h] at h1
/-- How many hops there may be. -/
theorem ihops_len (H : List Nat) : (ihops H).length ≤ H.length := by
  have hg := ihops_good H
  have key : ∀ i, i < (ilv H 8).2.length → i ≤ ((ilv H 8).2.getD i (0, 0)).2 := by
    intro i
    induction i with
    | zero => intro _; exact Nat.zero_le _
    | succ i ih =>
      intro hi
      have h1 := ih (by omega)
      have h2 := (hg.2.1 (i + 1) hi (by omega)).1
      rw [Nat.add_sub_cancel] at h2
      omega
  rw [ihops]
  rcases Nat.eq_zero_or_pos (ilv H 8).2.length with h0 | h0
  · omega
  · have h1 := key ((ilv H 8).2.length - 1) (by omega)
    have h2 := (hg.1 ((ilv H 8).2.length - 1) (by omega)).2.2
    have h3 := (ilv_good H 8 (Nat.le_refl _)).2
    omega
/-- .. at any time: no more than the place from which one looks on. -/
theorem IGood.len {lev : Nat} {s : Nat × List HopL} (hg : IGood lev s) : s.2.length ≤ s.1 := by
  have key : ∀ i, i < s.2.length → i ≤ (s.2.getD i (0, 0)).2 := by
    intro i
    induction i with
    | zero => intro _; exact Nat.zero_le _
    | succ i ih =>
      intro hi
      have h1 := ih (by omega)
      have h2 := (hg.2.1 (i + 1) hi (by omega)).1
      rw [Nat.add_sub_cancel] at h2
      omega
  rcases Nat.eq_zero_or_pos s.2.length with h0 | h0
  · omega
  · have h1 := key (s.2.length - 1) (by omega)
    have h2 := (hg.1 (s.2.length - 1) (by omega)).2.2
    omega
end Go.Proofs.YtegojdblaanclaaDoor
/- The contract of search: the hops. -/
namespace Go.Proofs.YtegojdblaanclaaDoor
open Go.RowKit

theorem ilv_len (H : List Nat) {j b : Nat} {o : List HopL} (hj : j ≤ 8) (h : ilv H j = (b, o)) : o.length ≤ b ∧ b ≤ H.length := by
  have h1 := ilv_good H j hj
  have h2 := h1.1.len
  rw [h] at h1 h2
  exact ⟨h2, h1.2⟩
theorem iinn_len (H : List Nat) {j lev b d b' : Nat} {o o' : List HopL} (hj : lev + j = 7) (h : ilv H j = (b, o)) (h2 : iinn H lev b d (b, o) = (b', o')) : o'.length ≤ b' ∧ b' ≤ b + d := by
  have h1 := ilv_good H j (by omega)
  rw [h] at h1
  have h3 := iinn_good (H := H) (lev := lev) (h1.1.low (by omega)) (by omega) (Nat.le_refl _) d
  simp only at h3
  rw [h2] at h3
  exact ⟨h3.1.len, h3.2⟩

set_option maxRecDepth 100000 in
set_option maxHeartbeats 4000000 in
theorem isearch_any (A : Option Addr) (n c : Nat) (H : List Nat) (w : World) (hA : VR vi w A H) (hl : H.length = n) (hn : n ≤ 1024) :
    Calls Tryd.prog 26 #[.slice A n c] w fun e w' => ∃ B d, e = .returned (.slice B (ihops H).length d) ∧ w'.ownsRow w.heap.size 45 2 (.slice B (ihops H).length d) (ihops H).length (hcells (ihops H)) ∧ Below w.heap.size w w' := by
  obtain ⟨ti, hti, hz0, hz1, hz2⟩ := info_parts infoO
  have HR := Lib.hid (fun j W (hj : j < n) (hb : Below w.heap.size w W) => (hA.later hb) j (by omega))
  have HG : Hid (∀ j b o, j ≤ 8 → ilv H j = (b, o) → o.length ≤ b ∧ b ≤ n) := Lib.hid fun j b o hj h => by have := ilv_len H hj h; omega
  have HI : Hid (∀ j lev b o, lev + j = 7 → ilv H j = (b, o) → ∃ T : Nat → Nat × List HopL, T b = (b, o) ∧ (∀ i, b ≤ i → lev < H.getD i 0 → T (i + 1) = (i + 1, (T i).2 ++ [(lev, i)])) ∧ (∀ i, b ≤ i → ¬ lev < H.getD i 0 → T (i + 1) = T i) ∧ T n = ilv H (j + 1) ∧ ∀ i b' o', b ≤ i → T i = (b', o') → o'.length ≤ b' ∧ b' ≤ i) := Lib.hid fun j lev b o hj h => by
    refine ⟨fun i => iinn H lev b (i - b) (b, o), by simp only [Nat.sub_self]; rfl, fun i hi hh => ?_, fun i hi hh => ?_, ?_, fun i b' o' hi h2 => ?_⟩
    · simp only [show i + 1 - b = (i - b) + 1 by omega, iinn_more, show b + (i - b) = i by omega]
      exact istp_yes _ hh
    · simp only [show i + 1 - b = (i - b) + 1 by omega, iinn_more, show b + (i - b) = i by omega]
      exact istp_no _ hh
    · rw [ilv, h, show 7 - j = lev by omega, ilev, hl]
    · have := iinn_len H hj h h2; omega
  have HE : Hid (∀ b o, ilv H 8 = (b, o) → ihops H = o) := Lib.hid fun b o h => by rw [ihops, h]
  have H0 : Hid (ilv H 0 = (0, [])) := Lib.hid rfl
  have HO : Hid (w.ownsRow w.heap.size 45 2 (.slice none 0 0) 0 (hcells [])) := Lib.hid (World.ownsRow_nil _ _ _ _)
  clear hA hl
  generalize ihops H = R at *
  generalize ilv H = F at *
  go_enter Tryd.func26, Tryd.ntmps26
  go_wp2_with fail
  go_loopw [3, 4, 5] (fun ov bv lv wr => ∃ (j b m c5 : Nat) (z : Int) (B : Option Addr) (o : List HopL), j ≤ 8 ∧ z + (j : Int) = 7 ∧ b ≤ n ∧ m ≤ 1024 ∧ lv = .int .i64 z ∧ bv = .int .i64 (b : Int) ∧ ov = .slice B m c5 ∧ Hid (F j = (b, o)) ∧ Hid (m = o.length) ∧ Hid (wr.ownsRow w.heap.size 45 2 (.slice B m c5) m (hcells o)) ∧ Hid (Below w.heap.size w wr)) (fun _ _ l _ => (intOf l + 1).toNat)
  case atStart => exact ⟨0, 0, 0, 0, 7, none, [], by omega, by omega, Nat.zero_le _, by omega, rfl, rfl, rfl, H0, Lib.hid rfl, HO, Lib.hid (Below.refl _ _)⟩
  case round =>
    clear H0 HO
    obtain ⟨j, b, m, c5, z, B, o, hj8, hz, hbn, hm, rfl, rfl, rfl, HF, HM, HO, HB⟩ := hrel
    by_cases hz1 : 0 ≤ z
    · obtain ⟨lev, rfl⟩ : ∃ lev : Nat, z = (lev : Int) := ⟨z.toNat, by omega⟩
      obtain ⟨T, hT0, hTy, hTn, hTe, hTl⟩ := HI.out j lev b o (by omega) HF.out
      have HTY := Lib.hid hTy
      have HTN := Lib.hid hTn
      have HTE := Lib.hid hTe
      have HTL := Lib.hid hTl
      have HT0 := Lib.hid hT0
      clear hTy hTn hTe hTl hT0 HF
      have hlev : lev ≤ 7 := by omega
      go_wp2_with fail
      go_loopw [3, 4, 6] (fun ov bv iv wr => ∃ (i b1 m c5 : Nat) (B : Option Addr) (o : List HopL), b ≤ i ∧ i ≤ n ∧ b1 ≤ n ∧ m ≤ 1024 ∧ iv = .int .i64 (i : Int) ∧ bv = .int .i64 (b1 : Int) ∧ ov = .slice B m c5 ∧ Hid (T i = (b1, o)) ∧ Hid (m = o.length) ∧ Hid (wr.ownsRow w.heap.size 45 2 (.slice B m c5) m (hcells o)) ∧ Hid (Below w.heap.size w wr)) (fun _ _ i _ => n - (intOf i).toNat)
      case atStart => exact ⟨b, b, m, c5, B, o, Nat.le_refl _, hbn, hbn, hm, rfl, rfl, rfl, HT0, HM, HO, HB⟩
      case round =>
        clear HM HO HB HT0 hm hz1
        obtain ⟨i, b1, m, c5, B, o, hbi, hin, hb1, hm, rfl, rfl, rfl, HT, HM, HO, HB⟩ := hrel
        by_cases hlt : i < n
        · obtain ⟨g, off, rfl, c0⟩ := HR.out i wr hlt HB.out
          have HY1 := Lib.hid (HTY.out i hbi)
          have HN1 := Lib.hid (HTN.out i hbi)
          generalize H.getD i 0 = x at c0 HY1 HN1
          have i0 : (0 : Int) ≤ (i : Int) := by omega
          have i1 : (i : Int) < (n : Int) := by omega
          by_cases hx : lev < x
          · have HT2 : Hid (T (i + 1) = (i + 1, o ++ [(lev, i)])) := Lib.hid (by rw [HY1.out hx, HT.out])
            have HM2 : Hid (m + 1 = (o ++ [(lev, i)]).length) := Lib.hid (by rw [List.length_append, ← HM.out]; rfl)
            have hm2 : m + 1 ≤ 1024 := by have := HTL.out (i + 1) _ _ (by omega) HT2.out; have := HM2.out; omega
            have hx1 : (lev : Int) < (x : Int) := by omega
            clear HY1 HN1 HT
            have hownA := HO.out.alloc (.cells #[vi lev, vi i] 45)
            have hnews := World.news_of_block (heap_alloc_new wr (.cells #[vi lev, vi i] 45))
            have B3 := Lib.hid (ba HB.out (.cells #[vi lev, vi i] 45))
            go_wp2_with (at_builtin; refine wpList_append_own _ rfl _ _ 38 rfl w.heap.size 45 ti _ 2 16 Tryd.underlying38 hti hz0 hz1 hz2 rfl (by decide) _ _ _ rfl hownA ⟨wr.heap.size, 0, none⟩ 1 1 [vi lev, vi i] rfl rfl hnews (by simp [Value.oneCell']) (by unfold maxLen; omega) (by omega) (by have := B3.out.size; exact this) ?_; intro v4 w5 hown5 hgrow5 _; obtain ⟨g6, c6, rfl⟩ := ownsRow_succ hown5)
            have B5 := Lib.hid (B3.out.grown hgrow5 B3.out.size (fun k e => by have := (hownA.lt k e).1; omega))
            have W5 : Hid (w5.ownsRow w.heap.size 45 2 (.slice (some ⟨g6, 0, none⟩) (m + 1) c6) (m + 1) (hcells (o ++ [(lev, i)]))) := Lib.hid (by rw [hcells_more]; exact hown5)
            clear hown5 hgrow5 hnews hownA
            go_wp2_with fail
            exact ⟨⟨i + 1, i + 1, m + 1, c6, _, _, by omega, by omega, by omega, hm2, by go_num, by go_num, rfl, HT2, HM2, W5, B5⟩, by simp [intOf]; omega⟩
          · have HT2 : Hid (T (i + 1) = (b1, o)) := Lib.hid (by rw [HN1.out hx, HT.out])
            have hx1 : ¬ (lev : Int) < (x : Int) := by omega
            clear HY1 HN1 HT
            go_wp2_with fail
            exact ⟨⟨i + 1, b1, m, c5, B, o, by omega, by omega, by omega, hm, by go_num, rfl, rfl, HT2, HM, HO, HB⟩, by simp [intOf]; omega⟩
        · obtain rfl : i = n := by omega
          have HF2 : Hid (F (j + 1) = (b1, o)) := Lib.hid (by rw [← HTE.out, HT.out])
          go_wp2_with fail
          exact ⟨⟨j + 1, b1, m, c5, (lev : Int) - 1, B, o, by omega, by omega, hb1, hm, by go_num, rfl, rfl, HF2, HM, HO, HB⟩, by simp [intOf]⟩
    · obtain rfl : j = 8 := by omega
      have HE2 := Lib.hid (HE.out b o HF.out)
      go_wp2
      go_ret
      exact ⟨B, c5, by rw [HE2.out, ← HM.out]; rfl, by rw [HE2.out, ← HM.out]; exact HO.out, HB.out⟩
end Go.Proofs.YtegojdblaanclaaDoor
/- math/bits.TrailingZeros64, every number: the library's own table is read as its initialiser lays it. How high a number is: halvings, counted. -/
namespace Go.Proofs.YtegojdblaanclaaDoor
open Go.RowKit

/-- The table in its variable. -/
def VTab (w : World) : Prop := ∀ j, j < 64 → w.cell? ⟨0, j, none⟩ = some (.int .u8 (Lib.deBruijn64tab.getD j 0 : Nat))
theorem VTab.lt {w : World} (h : VTab w) : 0 < w.heap.size := World.block_lt_of_cell? _ _ (h 0 (by omega))
theorem VTab.later {w w' : World} (h : VTab w) (hb : Below w.heap.size w w') : VTab w' := fun j hj => cell_later hb (h j hj)

/-- So many halvings at most: how often a number is halved without a rest, and 1. -/
def hg : Nat → Nat → Nat
  | 0, _ => 1
  | k + 1, x => if x % 2 = 0 then hg k (x / 2) + 1 else 1
def hgt (x : Nat) : Nat := hg 7 x
theorem hg_le (k x : Nat) : 1 ≤ hg k x ∧ hg k x ≤ k + 1 := by
  induction k generalizing x with
  | zero => simp [hg]
  | succ k ih =>
    unfold hg
    have := ih (x / 2)
    split <;> omega
theorem hgt_le (x : Nat) : 1 ≤ hgt x ∧ hgt x ≤ 8 := hg_le 7 x
theorem hg_zero (k : Nat) : hg k 0 = k + 1 := by
  induction k with
  | zero => rfl
  | succ k ih => rw [hg, if_pos (by omega), show 0 / 2 = 0 from rfl, ih]
theorem hg_from (f k x : Nat) (h0 : 0 < x) (hx : x < 2 ^ f) : hg k x = min (Lib.ctzFrom f x + 1) (k + 1) := by
  induction k generalizing x f with
  | zero => simp [hg]
  | succ k ih =>
    cases f with
    | zero => simp at hx; omega
    | succ f =>
      rw [hg, Lib.ctzFrom]
      by_cases h : x % 2 = 0
      · rw [if_pos h, if_neg (by omega), ih f (x / 2) (by omega) (by rw [Nat.pow_succ] at hx; omega)]
        omega
      · rw [if_neg h, if_pos (by omega)]
        omega
theorem hgt_ctz (x : Nat) (hx : x < 18446744073709551616) : Lib.ctz 64 x ≤ 64 ∧ min (Lib.ctz 64 x + 1) 8 = hgt x := by
  unfold Lib.ctz hgt
  split
  · rename_i h
    subst h
    exact ⟨by omega, by rw [hg_zero]; decide⟩
  · rename_i h
    have := Lib.ctzFrom_spec 64 x (by omega) hx
    obtain ⟨_, _, hk⟩ := this
    exact ⟨by omega, (hg_from 64 7 x (by omega) hx).symm⟩

theorem vtz_key (x a : Nat) (hx : x < 18446744073709551616) (hx0 : x ≠ 0) (hlow : x &&& (18446744073709551616 - x) = a) :
    IntKind.u64.wrap (bits BinOp.and IntKind.u64 (x : Int) (IntKind.u64.wrap (-(x : Int))) * 285870213051353865) / 288230376151711744 = ((a * 285870213051353865 % 18446744073709551616 / 288230376151711744 : Nat) : Int) := by
  have e1 : IntKind.u64.wrap (-(x : Int)) = ((18446744073709551616 - x : Nat) : Int) := by rw [IntKind.wrap_u64]; omega
  rw [e1, bits_and_u64_nat x _ hx (by omega), hlow, IntKind.wrap_u64]
  omega

set_option maxRecDepth 100000 in
set_option maxHeartbeats 1000000 in
theorem vtz_walk (x k idx : Nat) (w : World) (hx0 : ((x : Int) == 0) = false)
    (key : IntKind.u64.wrap (bits BinOp.and IntKind.u64 (x : Int) (IntKind.u64.wrap (-(x : Int))) * 285870213051353865) / 288230376151711744 = (idx : Int))
    (hi : idx < 64) (hk : k < 64) (hcell : w.cell? ⟨0, idx, none⟩ = some (.int .u8 k)) :
    Calls Tryd.prog 44 #[.int .u64 x] w fun e w' => e = .returned (.int .i64 k) ∧ w = w' := by
  go_enter Tryd.func44, Tryd.ntmps44
  go_wp2_with (simp only [key])
  go_ret
  exact ⟨rfl, rfl⟩
set_option maxRecDepth 100000 in
set_option maxHeartbeats 1000000 in
theorem vtz_zero (w : World) : Calls Tryd.prog 44 #[.int .u64 0] w fun e w' => e = .returned (.int .i64 64) ∧ w = w' := by
  go_enter Tryd.func44, Tryd.ntmps44
  go_wp2
  go_ret
  exact ⟨rfl, rfl⟩
theorem vtz_any (x : Nat) (hx : x < 18446744073709551616) (w : World) (hT : VTab w) :
    Calls Tryd.prog 44 #[.int .u64 (x : Int)] w fun e w' => e = .returned (.int .i64 (Lib.ctz 64 x : Int)) ∧ w = w' := by
  by_cases hx0 : x = 0
  · subst hx0
    exact vtz_zero w
  · obtain ⟨hlow, hk⟩ := Lib.lowest_bit 64 x hx0 hx
    obtain ⟨hi, htab⟩ := Lib.deBruijn64_at _ hk
    have hcell := hT _ hi
    rw [htab] at hcell
    exact vtz_walk x _ _ w (by simp; omega) (vtz_key x _ hx hx0 hlow) hi hk hcell

set_option maxRecDepth 100000 in
set_option maxHeartbeats 1000000 in
theorem vheightOf_any (x : Nat) (hx : x < 18446744073709551616) (w : World) (hT : VTab w) :
    Calls Tryd.prog 39 #[.int .u64 (x : Int)] w fun e w' => e = .returned (.int .i64 (hgt x : Int)) ∧ w = w' := by
  have T1 := Lib.hid (vtz_any x hx w hT)
  obtain ⟨hc, hm⟩ := hgt_ctz x hx
  generalize Lib.ctz 64 x = c at *
  generalize hgt x = m at *
  have E1 := Lib.hid hm
  clear hm hx hT
  go_enter Tryd.func39, Tryd.ntmps39
  go_wp2_with fail
  refine T1.out.mono ?_
  rintro e w1 ⟨rfl, rfl⟩
  go_wp2
  all_goals go_ret
  all_goals refine ⟨?_, rfl⟩
  all_goals have := E1.out
  · rw [show (m : Int) = 8 by omega]; rfl
  · rw [show (m : Int) = (c : Int) + 1 by omega]; rfl
end Go.Proofs.YtegojdblaanclaaDoor
/- The contracts of isKey, mayBe and New, and of the reference's Key and Right. -/
namespace Go.Proofs.YtegojdblaanclaaDoor
open Go.RowKit

/-- Is a text as long as a slot's key? -/
def keyB (k : List UInt8) : Bool := k.length == 16 || k.length == 32
/-- May a slot be? -/
def mayB (b : Nat) (k : List UInt8) : Bool := keyB k && decide (b ≤ 4294967295)
/-- A slot. -/
abbrev tv (n b : Nat) (k : List UInt8) : Value := .agg #[.int .u64 (n : Int), .int .u64 (b : Int), .string ⟨k.toArray⟩]

theorem tcells {W : World} {g : Nat} {t : TypeId} {x y z : Value} (h : Blk W g t #[x, y, z]) :
    (W.cell? ⟨g, 0, none⟩ = some x ∧ W.cell? ⟨g, 1, none⟩ = some y ∧ W.cell? ⟨g, 2, none⟩ = some z) ∧ W.frozen? ⟨g, 0, none⟩ = false ∧ W.frozen? ⟨g, 1, none⟩ = false ∧ W.frozen? ⟨g, 2, none⟩ = false :=
  ⟨⟨h.cell 0, h.cell 1, h.cell 2⟩, h.frozen 0, h.frozen 1, h.frozen 2⟩
end Go.Proofs.YtegojdblaanclaaDoor
/- Numbers' bytes, in plain lists: nothing of the program. -/
namespace Go.Proofs.YtegojdblaanclaaDoor

/-- A number's lowest bytes, the lowest first. -/
def low : Nat → Nat → List UInt8
  | _, 0 => []
  | n, k + 1 => UInt8.ofNat (n % 256) :: low (n / 256) k
/-- The number that bytes tell. -/
def val : List UInt8 → Nat
  | [] => 0
  | b :: l => b.toNat + 256 * val l

theorem low_length (n k : Nat) : (low n k).length = k := by
  induction k generalizing n with
  | zero => rfl
  | succ k ih => simp [low, ih]
theorem ofNat_toNat_mod (n : Nat) : (UInt8.ofNat (n % 256)).toNat = n % 256 := by
  simp
theorem val_low (n k : Nat) : val (low n k) = n % 256 ^ k := by
  induction k generalizing n with
  | zero => simp [low, val, Nat.mod_one]
  | succ k ih =>
    rw [low, val, ih, ofNat_toNat_mod, Nat.pow_succ, Nat.mul_comm (256 ^ k) 256, Nat.mod_mul]
theorem val_lt (l : List UInt8) : val l < 256 ^ l.length := by
  induction l with
  | nil => simp [val]
  | cons b l ih =>
    have hb := b.toNat_lt
    simp only [val, List.length_cons, Nat.pow_succ]
    omega
theorem low_val (l : List UInt8) : low (val l) l.length = l := by
  induction l with
  | nil => rfl
  | cons b l ih =>
    have hb := b.toNat_lt
    simp only [val, List.length_cons, low]
    have h1 : (b.toNat + 256 * val l) % 256 = b.toNat := by omega
    have h2 : (b.toNat + 256 * val l) / 256 = val l := by omega
    rw [h1, h2, ih]
    simp
theorem low_snoc (n k : Nat) : low n (k + 1) = low n k ++ [UInt8.ofNat (n / 256 ^ k % 256)] := by
  induction k generalizing n with
  | zero => simp [low]
  | succ k ih =>
    rw [low, ih (n / 256), low]
    simp [Nat.div_div_eq_div_mul, Nat.pow_succ, Nat.mul_comm]
theorem val_snoc (l : List UInt8) (b : UInt8) : val (l ++ [b]) = val l + 256 ^ l.length * b.toNat := by
  induction l with
  | nil => simp [val]
  | cons c l ih =>
    simp only [List.cons_append, val, ih, List.length_cons, Nat.pow_succ]
    rw [Nat.mul_add, Nat.mul_comm (256 ^ l.length) 256, Nat.mul_assoc, Nat.add_assoc]
theorem val_append (l m : List UInt8) : val (l ++ m) = val l + 256 ^ l.length * val m := by
  induction l with
  | nil => simp [val]
  | cons c l ih =>
    simp only [List.cons_append, val, ih, List.length_cons, Nat.pow_succ]
    rw [Nat.mul_add, Nat.mul_comm (256 ^ l.length) 256, Nat.mul_assoc, Nat.add_assoc]
theorem low_inj {n m k : Nat} (hn : n < 256 ^ k) (hm : m < 256 ^ k) (h : low n k = low m k) : n = m := by
  have := congrArg val h
  rw [val_low, val_low, Nat.mod_eq_of_lt hn, Nat.mod_eq_of_lt hm] at this
  exact this

theorem mod_pow_succ (n k : Nat) : n % 256 ^ (k + 1) = n % 256 ^ k + 256 ^ k * (n / 256 ^ k % 256) := by
  rw [Nat.pow_succ, Nat.mod_mul]
theorem ofNat_lt (a b : Nat) : (UInt8.ofNat (a % 256) < UInt8.ofNat (b % 256)) ↔ a % 256 < b % 256 := by
  rw [UInt8.lt_iff_toNat_lt, ofNat_toNat_mod, ofNat_toNat_mod]
theorem ofNat_eq (a b : Nat) : (UInt8.ofNat (a % 256) = UInt8.ofNat (b % 256)) ↔ a % 256 = b % 256 := by
  rw [← UInt8.toNat_inj, ofNat_toNat_mod, ofNat_toNat_mod]
theorem less_low (n m k : Nat) : Op.bytesLess (low n k).reverse (low m k).reverse = decide (n % 256 ^ k < m % 256 ^ k) := by
  induction k with
  | zero => simp [low, Op.bytesLess, Nat.mod_one]
  | succ k ih =>
    rw [low_snoc, low_snoc, List.reverse_append, List.reverse_append]
    simp only [List.reverse_cons, List.reverse_nil, List.nil_append, List.singleton_append, Op.bytesLess, ih]
    rw [mod_pow_succ n k, mod_pow_succ m k]
    have hn : n % 256 ^ k < 256 ^ k := Nat.mod_lt _ (Nat.pow_pos (by omega))
    have hm : m % 256 ^ k < 256 ^ k := Nat.mod_lt _ (Nat.pow_pos (by omega))
    generalize 256 ^ k = K at hn hm ⊢
    have e1 := ofNat_lt (n / K) (m / K)
    have e2 := ofNat_eq (n / K) (m / K)
    generalize n / K % 256 = a at e1 e2 ⊢
    generalize m / K % 256 = b at e1 e2 ⊢
    generalize n % K = x at hn ⊢
    generalize m % K = y at hm ⊢
    rw [Bool.eq_iff_iff]
    simp only [Bool.or_eq_true, Bool.and_eq_true, decide_eq_true_eq, beq_iff_eq, e1, e2]
    rcases Nat.lt_trichotomy a b with h | h | h
    · have : K * (a + 1) ≤ K * b := Nat.mul_le_mul_left K h
      rw [Nat.mul_add] at this
      omega
    · subst h; omega
    · have : K * (b + 1) ≤ K * a := Nat.mul_le_mul_left K h
      rw [Nat.mul_add] at this
      omega
theorem same_low {n m : Nat} (hn : n < 256 ^ 8) (hm : m < 256 ^ 8) : ((low n 8).reverse == (low m 8).reverse) = decide (n = m) := by
  rw [Bool.eq_iff_iff]
  simp only [beq_iff_eq, decide_eq_true_eq, List.reverse_inj]
  exact ⟨low_inj hn hm, fun h => by rw [h]⟩
end Go.Proofs.YtegojdblaanclaaDoor
/- Contracts of pass, and of the writer's low. -/
namespace Go.Proofs.YtegojdblaanclaaDoor
open Go.RowKit

set_option maxHeartbeats 400000 in
theorem pass_any (p : Nat) (n m : Int) (w : World) (h : At w p 0 (.int .i64 n)) (n0 : 0 ≤ n) (m0 : 0 ≤ m) (hs : n + m ≤ 9223372036854775807) :
    Calls Tryd.prog 62 #[.pointer (some ⟨p, 0, none⟩), .int .i64 m] w fun e w' => e = .returned (.int .i64 n) ∧ w' = w.setCell ⟨p, 0, none⟩ (.int .i64 (n + m)) := by
  obtain ⟨hc, hf⟩ := h
  go_enter Tryd.func62, Tryd.ntmps62
  go_wp2
  go_ret
  exact ⟨rfl, rfl⟩

/-- A byte's cell. -/
abbrev cbv (b : UInt8) : Value := .int .u8 (b.toNat : Int)
/-- The cells of so many bytes, of which those ahead are D, and the others 0. -/
def row (D : List UInt8) (N : Nat) : Array Value := ((D ++ List.replicate (N - D.length) 0).map cbv).toArray
/-- A writer, and what it has written. -/
def Wr (W : World) (p g : Nat) (D : List UInt8) (N : Nat) : Prop :=
  Blk W p 82 #[.int .i64 (D.length : Int), .slice (some ⟨g, 0, none⟩) N N] ∧ Blk W g 5 (row D N) ∧ D.length ≤ N
theorem Blk.ne_ {w : World} {g g' : Nat} {t t' : TypeId} {cs cs' : Array Value} (h : Blk w g t cs) (h' : Blk w g' t' cs') (hne : t ≠ t') : g ≠ g' := by
  rintro rfl
  unfold Blk at h h'
  rw [h] at h'
  injection h' with h'
  injection h' with _ ht
  exact hne ht
theorem Wr.ne {W : World} {p g : Nat} {D : List UInt8} {N : Nat} (h : Wr W p g D N) : p ≠ g := h.1.ne_ h.2.1 (by decide)
theorem row_size (D : List UInt8) (N : Nat) (h : D.length ≤ N) : (row D N).size = N := by
  simp [row]; omega
theorem row_set (D : List UInt8) (N : Nat) (b : UInt8) (h : D.length < N) : (row D N).setIfInBounds D.length (cbv b) = row (D ++ [b]) N := by
  unfold row
  obtain ⟨r, hr⟩ : ∃ r, N - D.length = r + 1 := ⟨N - D.length - 1, by omega⟩
  have hr' : N - (D ++ [b]).length = r := by simp; omega
  rw [hr, hr']
  simp [List.replicate_succ]
theorem crow_at (D : List UInt8) (N : Nat) (h : D.length < N) : (row D N)[D.length]? = some (.int .u8 0) := by
  unfold row
  obtain ⟨r, hr⟩ : ∃ r, N - D.length = r + 1 := ⟨N - D.length - 1, by omega⟩
  rw [hr]
  simp [List.replicate_succ]

theorem u8_wrap (q : Nat) : IntKind.u8.wrap (q : Int) = ((UInt8.ofNat (q % 256)).toNat : Int) := by
  rw [IntKind.wrap_u8, ofNat_toNat_mod]; omega

set_option maxRecDepth 100000 in
set_option maxHeartbeats 1000000 in
theorem wlow_any (p g n m N : Nat) (D : List UInt8) (w : World) (h : Wr w p g D N) (hn : (n : Int) ≤ 18446744073709551615) (hm : D.length + m ≤ N) (hN : (N : Int) ≤ 9223372036854775807) :
    Calls Tryd.prog 54 #[.pointer (some ⟨p, 0, none⟩), .int .u64 (n : Int), .int .i64 (m : Int)] w fun e w' => e = .returned (.tuple #[]) ∧ Wr w' p g (D ++ low n m) N ∧ Off p g w w' := by
  go_enter Tryd.func54, Tryd.ntmps54
  go_wp2
  go_loopw [1, 7] (fun nv iv wr => ∃ k q : Nat, k ≤ m ∧ iv = .int .i64 k ∧ nv = .int .u64 (q : Int) ∧ (q : Int) ≤ 18446744073709551615 ∧ Hid (q = n / 256 ^ k) ∧ Wr wr p g (D ++ low n k) N ∧ Off p g w wr) (fun _ i _ => m - (intOf i).toNat)
  case atStart => exact ⟨0, n, Nat.zero_le _, rfl, rfl, hn, Lib.hid (by simp), by simpa [low] using h, Off.refl _ _ _⟩
  case round =>
    obtain ⟨k, q, hk, rfl, rfl, hq1, HQ, hw, ho⟩ := hrel
    by_cases hlt : k < m
    · obtain ⟨hp, hg, hl⟩ := hw
      have hne : p ≠ g := hp.ne_ hg (by decide)
      have hL : (D ++ low n k).length = D.length + k := by rw [List.length_append, low_length]
      have P0 := hp.at_ (i := 0) rfl
      have P1 := (hp.at_ (i := 1) rfl).1
      have G0 := hg.at_ (crow_at (D ++ low n k) N (by omega))
      rw [hL] at P0 G0
      obtain ⟨d, hd⟩ : ∃ d, D.length + k = d := ⟨_, rfl⟩
      rw [hd] at P0 G0
      have G1 := G0.1
      have G2 := G0.2
      have i0 : (0 : Int) ≤ (d : Int) := by omega
      have i1 : (d : Int) < (N : Int) := by omega
      have hWr : Wr ((wr.setCell ⟨p, 0, none⟩ (.int .i64 ((d : Int) + 1))).setCell ⟨g, d, none⟩ (.int .u8 ((UInt8.ofNat (q % 256)).toNat : Int))) p g (D ++ low n (k + 1)) N := by
        refine ⟨?_, ?_, ?_⟩
        · have := (hp.set_ 0 (.int .i64 ((d : Int) + 1))).far (p := ⟨g, d, none⟩) hne (.int .u8 ((UInt8.ofNat (q % 256)).toNat : Int))
          rw [low_snoc, ← List.append_assoc, List.length_append, hL, hd]
          simpa using this
        · have := (hg.far (p := ⟨p, 0, none⟩) (Ne.symm hne) (.int .i64 ((d : Int) + 1))).set_ d (cbv (UInt8.ofNat (q % 256)))
          rw [← hd, ← hL, row_set _ _ _ (by omega)] at this
          rw [low_snoc, ← List.append_assoc, ← HQ.out, ← hd, ← hL]
          exact this
        · simp [low_length]; omega
      have P3 : ((wr.setCell ⟨p, 0, none⟩ (.int .i64 ((d : Int) + 1))).setCell ⟨g, d, none⟩ (.int .u8 ((UInt8.ofNat (q % 256)).toNat : Int))).cell? ⟨p, 1, none⟩ = some (.slice (some ⟨g, 0, none⟩) N N) := (World.cell?_setCell_other _ _ _ _ (by simp)).trans ((World.cell?_setCell_other _ _ _ _ (by simp)).trans P1)
      have HWr := Lib.hid hWr
      have hOff : Off p g w ((wr.setCell ⟨p, 0, none⟩ (.int .i64 ((d : Int) + 1))).setCell ⟨g, d, none⟩ (.int .u8 ((UInt8.ofNat (q % 256)).toNat : Int))) := (ho.setCell (.inl rfl) _).setCell (.inr rfl) _
      have P2 : (wr.setCell ⟨p, 0, none⟩ (.int .i64 ((d : Int) + 1))).cell? ⟨p, 1, none⟩ = some (.slice (some ⟨g, 0, none⟩) N N) := (World.cell?_setCell_other _ _ _ _ (by simp)).trans P1
      clear hWr hL hg hp G0
      have hB := u8_wrap q
      obtain ⟨b, hb⟩ : ∃ b, UInt8.ofNat (q % 256) = b := ⟨_, rfl⟩
      rw [hb] at hB HWr hOff P3
      have HD := Lib.hid hd
      clear hb hd
      go_wp2_with fail
      go_region_held3 (fun W => W.cell? ⟨p, 1, none⟩ = some (.slice (some ⟨g, 0, none⟩) N N)) (first | exact P1 | exact P2 | exact P3 | assumption | go_keep) (first | (go_at_call 62; refine (pass_any p d 1 _ P0.drew (by omega) (by omega) (by omega)).mono ?_; rintro e w' ⟨rfl, rfl⟩))
      go_wp2
      exact ⟨⟨k + 1, q / 256, by omega, by go_num, by go_num, by omega, Lib.hid (by rw [HQ.out, Nat.div_div_eq_div_mul, Nat.pow_succ]), HWr.out, hOff.drew⟩, by simp [intOf]; omega⟩
    · obtain rfl : k = m := by omega
      go_wp2
      go_end0
      exact ⟨rfl, hw, ho⟩
end Go.Proofs.YtegojdblaanclaaDoor
/- Contracts of newWriter, number, told, Number, the reference's Low, and alive. -/
namespace Go.Proofs.YtegojdblaanclaaDoor
open Go.RowKit

theorem infoU8 : (Tryd.prog.info? 5).map (fun i => (i.zero, i.size, i.bytes)) = some (some (.int .u8 0), 1, 1) := by kernel_rfl
theorem made_row (n : Nat) : madeCells (Value.int .u8 0).cells n = row [] n := by
  unfold madeCells row
  apply Array.ext
  · simp
  · intro i h1 h2
    have hm : i % 1 = 0 := Nat.mod_one i
    simp [Value.cells, hm]

set_option maxRecDepth 100000 in
set_option maxHeartbeats 1000000 in
theorem newWriter_any (n : Nat) (w : World) (hn : n ≤ 1099511627776) :
    Calls Tryd.prog 47 #[.int .i64 (n : Int)] w fun e w' => ∃ p g, e = .returned (.pointer (some ⟨p, 0, none⟩)) ∧ w.heap.size ≤ p ∧ w.heap.size ≤ g ∧ Wr w' p g [] n ∧ Below w.heap.size w w' := by
  obtain ⟨i1, hi, hz0, hz1, hz2⟩ := info_parts infoU8
  have hmk : ∀ W : World, (Instr.makeSlice 73 (.int .i64 (n : Int)) (.int .i64 (n : Int))).run Tryd.prog W = .ok (.slice (some ⟨W.heap.size, 0, none⟩) n n) (W.alloc (.cells (row [] n) 5)) := fun W => by
    have hb : (i1.bytes : Int) * (n : Int) ≤ 281474976710656 := by rw [hz2]; omega
    have hr := run_make (P := Tryd.prog) W 73 5 i1 _ Tryd.underlying73 hi hz0 .i64 .i64 n n (by omega) (by omega) hb (by omega)
    rw [hz1, Int.toNat_natCast, Nat.mul_one, made_row] at hr
    exact hr
  go_enter Tryd.func47, Tryd.ntmps47
  go_wp2
  go_ret
  exact ⟨_, _, rfl, by omega, Nat.le_refl _, ⟨Blk.newAt (by simp) _ _, (Blk.new w _ _).alloc _, Nat.zero_le _⟩, ba (ba (Below.refl _ _) _) _⟩

set_option maxRecDepth 100000 in
set_option maxHeartbeats 1000000 in
theorem wnumber_any (p g n N : Nat) (D : List UInt8) (w : World) (h : Wr w p g D N) (hn : (n : Int) ≤ 18446744073709551615) (hm : D.length + 8 ≤ N) (hN : (N : Int) ≤ 9223372036854775807) :
    Calls Tryd.prog 48 #[.pointer (some ⟨p, 0, none⟩), .int .u64 (n : Int)] w fun e w' => e = .returned (.tuple #[]) ∧ Wr w' p g (D ++ low n 8) N ∧ Off p g w w' := by
  go_enter Tryd.func48, Tryd.ntmps48
  go_wp2_with fail
  refine (wlow_any p g n 8 N D _ h hn hm hN).mono ?_
  rintro e w1 ⟨rfl, hw, ho⟩
  go_wp2
  go_end0
  exact ⟨rfl, hw, ho⟩

theorem row_full (D : List UInt8) : row D D.length = (D.map cbv).toArray := by simp [row]

set_option maxRecDepth 100000 in
set_option maxHeartbeats 1000000 in
theorem wtold_any (p g N : Nat) (D : List UInt8) (w : World) (h : Wr w p g D N) (hN : D.length = N) :
    Calls Tryd.prog 49 #[.pointer (some ⟨p, 0, none⟩)] w fun e w' => e = .returned (.string ⟨D.toArray⟩) ∧ w = w' := by
  subst hN
  obtain ⟨hp, hg, _⟩ := h
  have hc := (hp.at_ (i := 1) rfl).1
  have hcv := run_convert_bytes_back (P := Tryd.prog) w 73 9 5 ⟨g, 0, none⟩ D.length D Tryd.underlying73 Tryd.underlying5 Tryd.underlying9 (fun j hj => by
    have e : (⟨g, 0, none⟩ : Addr).add j = ⟨g, j, none⟩ := by cases j <;> simp [Addr.add]
    rw [e, hg.cell j, row_full]
    simp [hj])
  clear hp hg
  go_enter Tryd.func49, Tryd.ntmps49
  go_wp2
  go_ret
  exact ⟨rfl, rfl⟩

set_option maxRecDepth 100000 in
set_option maxHeartbeats 1000000 in
theorem number_any (n : Nat) (w : World) (hn : (n : Int) ≤ 18446744073709551615) :
    Calls Tryd.prog 41 #[.int .u64 (n : Int)] w fun e w' => e = .returned (.string ⟨(low n 8).toArray⟩) ∧ Below w.heap.size w w' := by
  go_enter Tryd.func41, Tryd.ntmps41
  go_wp2_with fail
  refine (newWriter_any 8 _ (by omega)).mono ?_
  rintro e w1 ⟨p, g, rfl, hp, hg, hw, hb⟩
  go_wp2_with fail
  refine (wnumber_any p g n 8 [] _ hw hn (by simp) (by omega)).mono ?_
  rintro e w2 ⟨rfl, hw2, ho⟩
  go_wp2_with fail
  refine (wtold_any p g 8 _ _ hw2 (by simp [low_length])).mono ?_
  rintro e w3 ⟨rfl, rfl⟩
  go_wp2
  go_ret
  exact ⟨rfl, hb.trans (ho.below hp hg hb.size)⟩

set_option maxRecDepth 100000 in
set_option maxHeartbeats 1000000 in
theorem rlow_any (n m : Nat) (w : World) (hm : (m : Int) ≤ 1048576) (hn : (n : Int) ≤ 18446744073709551615) :
    Calls Tryd.prog 43 #[.int .u64 (n : Int), .int .i64 (m : Int)] w fun e w' => e = .returned (.string ⟨(low n m).toArray⟩) ∧ Below w.heap.size w w' := by
  go_enter Tryd.func43, Tryd.ntmps43
  go_wp2
  go_loopw [0, 5, 6] (fun nv out iv wr => ∃ k q : Nat, k ≤ m ∧ iv = .int .i64 k ∧ nv = .int .u64 (q : Int) ∧ (q : Int) ≤ 18446744073709551615 ∧ Hid (q = n / 256 ^ k) ∧ out = .string ⟨(low n k).toArray⟩ ∧ Below w.heap.size w wr) (fun _ _ i _ => m - (intOf i).toNat)
  case atStart => exact ⟨0, n, Nat.zero_le _, rfl, rfl, hn, Lib.hid (by simp), rfl, Below.refl _ _⟩
  case round =>
    obtain ⟨k, q, hk, rfl, rfl, hq1, HQ, rfl, hb⟩ := hrel
    by_cases hlt : k < m
    · have hL := low_length n k
      have hS := low_snoc n k
      rw [← HQ.out] at hS
      obtain ⟨b, hbb⟩ : ∃ b, UInt8.ofNat (q % 256) = b := ⟨_, rfl⟩
      have hB : IntKind.u8.wrap ((q : Int) % 256) = (b.toNat : Int) := by rw [← hbb, IntKind.wrap_u8, ofNat_toNat_mod]; omega
      rw [hbb] at hS
      have hcv : ∀ W : World, (convert 73 9 (.slice (some ⟨W.heap.size, 0, none⟩) 1 1)).run Tryd.prog (W.alloc (.cells #[cbv b] 5)) = .ok (.string ⟨[b].toArray⟩) (W.alloc (.cells #[cbv b] 5)) := fun W => run_convert_bytes_back (P := Tryd.prog) (W.alloc (.cells #[cbv b] 5)) 73 9 5 ⟨W.heap.size, 0, none⟩ 1 [b] Tryd.underlying73 Tryd.underlying5 Tryd.underlying9 (fun j hj => by
        obtain rfl : j = 0 := by simpa using hj
        simp [Addr.add])
      have hadd : ∀ W : World, (Op.stringOp .add ⟨(low n k).toArray⟩ ⟨[b].toArray⟩).run Tryd.prog W = .ok (.string ⟨(low n k ++ [b]).toArray⟩) W := fun W => run_string_add_lists (P := Tryd.prog) W (low n k) [b] (by omega) (by simp)
      have HS := Lib.hid hS
      clear hS hbb
      go_wp2
      exact ⟨⟨k + 1, q / 256, by omega, by go_num, by go_num, by omega, Lib.hid (by rw [HQ.out, Nat.div_div_eq_div_mul, Nat.pow_succ]), by rw [HS.out], ba hb _⟩, by simp [intOf]; omega⟩
    · obtain rfl : k = m := by omega
      go_wp2
      go_ret
      exact ⟨rfl, hb⟩
end Go.Proofs.YtegojdblaanclaaDoor
/- Fields' bytes, in plain lists: nothing of the program. -/
namespace Go.Proofs.YtegojdblaanclaaDoor

/-- A field: is it a text; the number; the text. -/
abbrev Fld := Bool × Nat × List UInt8
/-- A field's bytes. -/
def enc (x : Fld) : List UInt8 := if x.1 = true then low x.2.2.length 2 ++ x.2.2 else low x.2.1 8
/-- Fields' bytes. -/
def encs (L : List Fld) : List UInt8 := L.flatMap enc
/-- A field whose text, if it is one, is not too long. -/
def OkF (x : Fld) : Prop := x.1 = true → x.2.2.length ≤ 4096
/-- A field as Go has it: a number of 64 bits, a text that can be. -/
def NumF (x : Fld) : Prop := x.2.1 ≤ 18446744073709551615 ∧ x.2.2.length ≤ 9223372036854775807

theorem enc_text (n : Nat) (s : List UInt8) : enc (true, n, s) = low s.length 2 ++ s := by simp [enc]
theorem enc_num (n : Nat) (s : List UInt8) : enc (false, n, s) = low n 8 := by simp [enc]
theorem enc_len_text (n : Nat) (s : List UInt8) : (enc (true, n, s)).length = 2 + s.length := by rw [enc_text, List.length_append, low_length]
theorem enc_len_num (n : Nat) (s : List UInt8) : (enc (false, n, s)).length = 8 := by rw [enc_num, low_length]
theorem enc_le {x : Fld} (h : OkF x) : (enc x).length ≤ 4098 := by
  obtain ⟨t, n, s⟩ := x
  cases t
  · rw [enc_len_num]; omega
  · rw [enc_len_text]; have := h rfl; simp only at this; omega
theorem encs_nil : encs [] = [] := rfl
theorem encs_append (L M : List Fld) : encs (L ++ M) = encs L ++ encs M := by simp [encs]
theorem encs_snoc (L : List Fld) (x : Fld) : encs (L ++ [x]) = encs L ++ enc x := by simp [encs]
theorem encs_take (L : List Fld) (k : Nat) (h : k < L.length) : encs (L.take (k + 1)) = encs (L.take k) ++ enc L[k] := by
  rw [← List.take_append_getElem h, encs_snoc]
theorem encs_len (L : List Fld) (h : ∀ x ∈ L, OkF x) : (encs L).length ≤ L.length * 4098 := by
  induction L with
  | nil => simp [encs]
  | cons x L ih =>
    have e : encs (x :: L) = enc x ++ encs L := by simp [encs]
    rw [e, List.length_append, List.length_cons]
    have h1 := enc_le (h x (by simp))
    have h2 := ih (fun y hy => h y (by simp [hy]))
    omega
theorem encs_take_le (L : List Fld) (k : Nat) : (encs (L.take k)).length ≤ (encs L).length := by
  have e : encs L = encs (L.take k) ++ encs (L.drop k) := by rw [← encs_append, List.take_append_drop]
  rw [e, List.length_append]
  omega
end Go.Proofs.YtegojdblaanclaaDoor
/- Contracts of sizeOf, and of the writer's text and field. -/
namespace Go.Proofs.YtegojdblaanclaaDoor
open Go.RowKit

theorem Wr.below {w w' : World} {p g N : Nat} {D : List UInt8} (h : Wr w p g D N) (hb : Below w.heap.size w w') : Wr w' p g D N := ⟨h.1.below hb, h.2.1.below hb, h.2.2⟩
theorem Wr.alloc {w : World} {p g N : Nat} {D : List UInt8} (h : Wr w p g D N) (o : Obj) : Wr (w.alloc o) p g D N := ⟨h.1.alloc o, h.2.1.alloc o, h.2.2⟩

/-- A field's value. -/
abbrev fval (x : Fld) : Value := .agg #[.bool x.1, .int .u64 (x.2.1 : Int), .string ⟨x.2.2.toArray⟩]

theorem row_splice (D s : List UInt8) (N : Nat) (h : D.length + s.length ≤ N) : ((row D N).toList.take D.length ++ Lib.byteCells s ++ (row D N).toList.drop (D.length + s.length)).toArray = row (D ++ s) N := by
  unfold row Lib.byteCells
  obtain ⟨r, hr⟩ : ∃ r, N = D.length + s.length + r := ⟨N - (D.length + s.length), by omega⟩
  subst hr
  have e1 : D.length + s.length + r - D.length = s.length + r := by omega
  have e2 : D.length + s.length + r - (D ++ s).length = r := by simp
  rw [e1, e2, List.toList_toArray, List.map_append]
  congr 1
  rw [List.take_append_of_le_length (by simp), List.take_of_length_le (by simp), List.drop_append]
  simp [List.drop_of_length_le]

theorem infoB : (Tryd.prog.info? 5).map (·.size) = some 1 := by kernel_rfl

/-- What copy does to a writer's row. -/
theorem copy_row (W : World) (g N : Nat) (D s : List UInt8) (h : Blk W g 5 (row D N)) (hl : D.length + s.length ≤ N) :
    (Builtin.copy_ #[73, 9] 3 #[.slice (some ⟨g, D.length, none⟩) (N - D.length) (N - D.length), .string ⟨s.toArray⟩]).run Tryd.prog W = .ok (goInt s.length) (W.setRow g (row (D ++ s) N)) := by
  have h' := Lib.run_copy_row_string (P := Tryd.prog) W 73 9 3 5 g D.length (N - D.length) (N - D.length) ⟨s.toArray⟩ (row D N) 5 Tryd.underlying73 infoB h (by rw [size_mk]; omega) (by rw [size_mk, row_size _ _ (by omega)]; omega)
  rw [size_mk] at h'
  rw [← row_splice D s N hl]
  exact h'

theorem copy_none (W : World) (a : Option Addr) : (Builtin.copy_ #[73, 9] 3 #[.slice a 0 0, .string ⟨#[]⟩]).run Tryd.prog W = .ok (goInt 0) W :=
  Lib.run_copy_empty_string W 73 9 3 5 a 0 0 ⟨#[]⟩ Tryd.underlying73 (by rw [infoB]; rfl) rfl

end Go.Proofs.YtegojdblaanclaaDoor
