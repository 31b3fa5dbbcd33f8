/- Texts of this seat, one behind the other: IOpen, IHops, IRefH, IRefR. -/
import Derived.Deep.Strs
import Derived.ChangeSlices
import Derived.BigQuiet
import Derived.Test.YtjonhenllhnibaaGreatDoorQ01
import Derived.Test.YtjonhenllhnibaaGreatDoorQ13
import Derived.Test.YtjonhenllhnibaaGreatDoorQ14
/- Items that came in as a parameter, opened. -/
namespace Go.Proofs.YtjonhenllhnibaaGreatDoor
open Go.ChangeShapes Go.WideShapes Go.ChangeAt Go.RowKit Go.Joins Go.Deep
section
variable {H : Type} {enc : TypeId × Value → H} {P : Program} {w : World} {base : Nat} {spare : Nat → Bool} {held : Bool}
theorem iopen_slice_fields {t e : TypeId} {fs : Array Field} {fuel : Nat} {cs : List Value} {x : DataW H × List MemPlace} (ht : P.underlying t = some (.slice e)) (he : P.underlying e = some (.struct fs))
    (hone : oneCellFields P fs = true) (hC : P.cellsOf e = fs.size) (h : DataW.trod enc P w base spare held fuel t cs = some x) :
    (cs = [.slice none 0 0] ∧ x = (.nil, [])) ∨
    ∃ (a : Addr) (len cap m : Nat) (D : Nat → DataW H) (Pl : Nat → List MemPlace), cs = [.slice (some a) len cap] ∧ base ≤ a.block ∧ len ≤ cap ∧ cap ≤ maxLen ∧ m = (if spare a.block then cap else len) ∧
      x = (.slice ((List.range len).map D) ((List.range (m - len)).map fun j => D (len + j)), MemPlace.row a (m * fs.size) ++ (List.range m).flatMap Pl) ∧
      ∀ i, i < m → ∃ (ys : List (DataW H × List MemPlace)) (n : Nat), D i = .agg (ys.map (·.1)) ∧ Pl i = ys.flatMap (·.2) ∧ ys.length = fs.size ∧
        ∀ (j : Nat) (f : Field), fs[j]? = some f → ∃ (v : Value) (y : DataW H × List MemPlace), w.cell? (a.add (i * fs.size + j)) = some v ∧ ys[j]? = some y ∧ DataW.trod enc P w base spare held n f.type [v] = some y := by
  rcases open_slice ht h with h0 | ⟨a, len, cap, m, n, D, Pl, hcs, hb, hl, hm, hmm, hx, hi⟩
  · exact .inl h0
  · refine .inr ⟨a, len, cap, m, D, Pl, hcs, hb, hl, hm, hmm, by rw [hC] at hx; exact hx, fun i him => ?_⟩
    obtain ⟨cs', hc, ht'⟩ := hi i him
    rw [hC] at hc
    obtain ⟨ys, n', hn', hy, hlen, hyl, hf⟩ := DataW.trod_struct he ht'
    obtain ⟨_, hcl, hat⟩ := World.cells?_some hc
    simp only [Prod.mk.injEq] at hy
    refine ⟨ys, n', hy.1, hy.2, hyl, fun j f hj => ?_⟩
    obtain ⟨ho, hk⟩ := hone_of hone j f hj
    have hjl : j < fs.size := (Array.getElem?_eq_some_iff.1 hj).1
    have hcell := hat j hjl
    have hv : cs'[j]? = some (cs'[j]'(by omega)) := List.getElem?_eq_getElem (by omega)
    have h1 := hf j f hj
    rw [ho, hk] at h1
    have hone' : (cs'.drop j).take 1 = [cs'[j]'(by omega)] := by
      rw [List.drop_eq_getElem_cons (by omega)]
      rfl
    rw [hone'] at h1
    have hys : ys[j]? = some (ys[j]'(by omega)) := List.getElem?_eq_getElem (by omega)
    refine ⟨_, _, ?_, hys, h1.trans hys⟩
    rw [← Go.Deep.add_add, hcell, hv]
end

theorem ilist_of {α : Type} {Q : Nat → α → Prop} (n : Nat) (h : ∀ i, i < n → ∃ p, Q i p) : ∃ L : List α, L.length = n ∧ ∀ i (hi : i < L.length), Q i L[i] := by
  induction n with
  | zero => exact ⟨[], rfl, fun i hi => absurd hi (Nat.not_lt_zero i)⟩
  | succ n ih =>
    obtain ⟨L, hl, hq⟩ := ih (fun i hi => h i (by omega))
    obtain ⟨p, hp⟩ := h n (by omega)
    refine ⟨L ++ [p], by simp [hl], fun i hi => ?_⟩
    rw [List.getElem_append]
    split
    · exact hq i (by assumption)
    · have : i = n := by simp at hi; omega
      subst this
      simpa using hp
theorem cellsI : Tryz.prog.cellsOf 42 = 2 := by kernel_rfl

set_option maxRecDepth 100000 in
theorem open_items_in {H : Type} {enc : TypeId × Value → H} {W : World} {base fuel : Nat} {sp : Nat → Bool} {x : Value} {y : DataW H × List MemPlace}
    (hf : DataW.trod enc Tryz.prog W base sp true fuel 22 [x] = some y) :
    ∃ (A : Option Addr) (cap : Nat) (L : List ItL), x = .slice A L.length cap ∧ L.length ≤ cap ∧ IR W A L ∧ ∀ x ∈ L, x.1 < 18446744073709551616 := by
  rcases iopen_slice_fields Tryz.underlying22 Tryz.underlying42 (by kernel_rfl) cellsI hf with ⟨hcs, _⟩ | ⟨a, len, cap, m, D, Pl, hcs, _, hle, hcap, hm, _, hi⟩
  · exact ⟨none, 0, [], by simpa using hcs, Nat.le_refl _, IR.nil _ _, by simp⟩
  · have hml : len ≤ m := by rw [hm]; split <;> omega
    obtain ⟨L, hL, hq⟩ := ilist_of (Q := fun i (q : ItL) => W.cell? (a.add (i * 2)) = some (vu q.1) ∧ W.cell? (a.add (i * 2 + 1)) = some (sv q.2) ∧ q.1 < 18446744073709551616) len (fun i hil => by
      obtain ⟨ys, n, _, _, _, hff⟩ := hi i (by omega)
      obtain ⟨u0, y0, c0, _, t0⟩ := hff 0 _ rfl
      obtain ⟨u1, y1, c1, _, t1⟩ := hff 1 _ rfl
      obtain ⟨x, e0, _, wx⟩ := DataW.trod_int Tryz.underlying23 t0
      obtain ⟨s, e1, _, ws⟩ := DataW.trod_string Tryz.underlying9 t1
      simp at e0 e1
      subst e0 e1
      obtain ⟨l, rfl, hl⟩ := str_list s
      obtain ⟨m, rfl, hlt⟩ := u64_nat wx
      exact ⟨(m, l), c0, c1, hlt⟩)
    refine ⟨some a, cap, L, by rw [hL]; simpa using hcs, by omega, fun j hj => ?_, fun x hx => ?_⟩
    · obtain ⟨q0, q1, _⟩ := hq j hj
      obtain ⟨g, off, s⟩ := a
      have hs : s = none := by
        have := (hq 0 (by omega)).1
        simpa [Addr.add] using World.cell?_spot this
      subst hs
      rw [Go.WideShapes.add_plain] at q0 q1
      rw [← Nat.add_assoc] at q1
      have e : L.getD j (0, []) = L[j] := by simp [List.getD, hj]
      rw [e]
      exact ⟨g, off, rfl, q0, q1⟩
    · obtain ⟨j, hj, rfl⟩ := List.getElem_of_mem hx
      exact (hq j hj).2.2
set_option maxRecDepth 100000 in
theorem open_items {H : Type} {enc : TypeId × Value → H} {W : World} {base : Nat} {sp : Nat → Bool} {r : Reach} {b0 : Nat} {v : Value} {d : DataW H} {p : List MemPlace}
    (hv : Value.okWide Tryz.prog W r b0 22 v) (h : DataW.Trod enc Tryz.prog W base sp true 22 v d p) :
    ∃ (A : Option Addr) (cap : Nat) (L : List ItL), v = .slice A L.length cap ∧ L.length ≤ cap ∧ IR W A L ∧ ∀ x ∈ L, x.1 < 18446744073709551616 := by
  obtain ⟨a0, len0, cap0, rfl⟩ := okWide_slice Tryz.underlying22 hv
  obtain ⟨fuel, hf⟩ := h
  exact open_items_in (by simpa [Value.cells] using hf)
set_option maxRecDepth 100000 in
theorem open_item {H : Type} {enc : TypeId × Value → H} {W : World} {base : Nat} {sp : Nat → Bool} {r : Reach} {b0 : Nat} {v : Value} {d : DataW H} {p : List MemPlace}
    (hv : Value.okWide Tryz.prog W r b0 42 v) (h : DataW.Trod enc Tryz.prog W base sp true 42 v d p) :
    ∃ (k : Nat) (s : List UInt8), v = .agg #[.int .u64 (k : Int), sv s] ∧ k < 18446744073709551616 := by
  obtain ⟨cs, rfl, hcs⟩ := okWide_struct Tryz.underlying42 hv
  obtain ⟨fuel, hf⟩ := h
  rw [cellsI] at hcs
  obtain ⟨x, y, rfl⟩ : ∃ x y, cs = #[x, y] := by
    obtain ⟨l⟩ := cs
    match l, hcs with
    | [x, y], _ => exact ⟨x, y, rfl⟩
  obtain ⟨y0, y1, n, _, _, t0, t1⟩ := trod_struct2 Tryz.underlying42 hf
  have e0 : Tryz.prog.cellsOf 23 = 1 := by kernel_rfl
  have e1 : Tryz.prog.cellsOf 9 = 1 := by kernel_rfl
  simp only [e0] at t0
  simp only [e1] at t1
  obtain ⟨k, h0, _, wx⟩ := DataW.trod_int Tryz.underlying23 (by simpa [Value.cells] using t0)
  obtain ⟨s, h1, _, ws⟩ := DataW.trod_string Tryz.underlying9 (by simpa [Value.cells] using t1)
  simp at h0 h1
  subst h0 h1
  obtain ⟨l, rfl, hl⟩ := str_list s
  obtain ⟨m, rfl, hlt⟩ := u64_nat wx
  exact ⟨m, l, rfl, hlt⟩
end Go.Proofs.YtjonhenllhnibaaGreatDoor
/- The hops of a search among items of some heights, in plain lists. Nothing of any function. -/
namespace Go.Proofs.YtjonhenllhnibaaGreatDoor

/-- A search looks at an item, on a level: the place from which it looks on, and the hops so far. -/
def istp (H : List Nat) (lev : Nat) (s : Nat × List HopL) (i : Nat) : Nat × List HopL := if lev < H.getD i 0 then (i + 1, s.2 ++ [(lev, i)]) else s
/-- .. at so many items from a place on; .. at all of them. -/
def iinn (H : List Nat) (lev b d : Nat) (s : Nat × List HopL) : Nat × List HopL := (List.range' b d).foldl (istp H lev) s
def ilev (H : List Nat) (lev : Nat) (s : Nat × List HopL) : Nat × List HopL := iinn H lev s.1 (H.length - s.1) s
/-- Behind so many levels, from the seventh on down; behind all. -/
def ilv (H : List Nat) : Nat → Nat × List HopL
  | 0 => (0, [])
  | j + 1 => ilev H (7 - j) (ilv H j)
def ihops (H : List Nat) : List HopL := (ilv H 8).2

theorem iinn_zero (H : List Nat) (lev b : Nat) (s : Nat × List HopL) : iinn H lev b 0 s = s := rfl
theorem iinn_more (H : List Nat) (lev b d : Nat) (s : Nat × List HopL) : iinn H lev b (d + 1) s = istp H lev (iinn H lev b d s) (b + d) := by
  simp [iinn, List.range'_concat]
theorem iinn_add (H : List Nat) (lev b d e : Nat) (s : Nat × List HopL) : iinn H lev b (d + e) s = iinn H lev (b + d) e (iinn H lev b d s) := by
  induction e with
  | zero => rfl
  | succ e ih => rw [← Nat.add_assoc, iinn_more, ih, iinn_more, Nat.add_assoc]
theorem istp_yes {H : List Nat} {lev i : Nat} (s : Nat × List HopL) (h : lev < H.getD i 0) : istp H lev s i = (i + 1, s.2 ++ [(lev, i)]) := by rw [istp, if_pos h]
theorem istp_no {H : List Nat} {lev i : Nat} (s : Nat × List HopL) (h : ¬ lev < H.getD i 0) : istp H lev s i = s := by rw [istp, if_neg h]
theorem iinn_quiet {H : List Nat} {lev b : Nat} (s : Nat × List HopL) : ∀ {d : Nat}, (∀ j, b ≤ j → j < b + d → ¬ lev < H.getD j 0) → iinn H lev b d s = s := by
  intro d
  induction d with
  | zero => intro _; rfl
  | succ d ih =>
    intro h
    rw [iinn_more, ih (fun j a c => h j a (by omega)), istp_no _ (h (b + d) (by omega) (by omega))]
/-- A search ends on a level. -/
theorem ilev_quiet {H : List Nat} {lev : Nat} {s : Nat × List HopL} (h : ∀ j, s.1 ≤ j → j < H.length → ¬ lev < H.getD j 0) : ilev H lev s = s := by
  rw [ilev]
  exact iinn_quiet s fun j a c => h j a (by omega)
/-- A search hops, and goes on. -/
theorem ilev_hop {H : List Nat} {lev i : Nat} {s : Nat × List HopL} (hi : i < H.length) (hs : s.1 ≤ i) (h : ∀ j, s.1 ≤ j → j < i → ¬ lev < H.getD j 0) (hh : lev < H.getD i 0) : ilev H lev s = ilev H lev (i + 1, s.2 ++ [(lev, i)]) := by
  rw [ilev, show H.length - s.1 = (i - s.1) + (1 + (H.length - (i + 1))) by omega, iinn_add, iinn_quiet s (fun j a c => h j a (by omega)), iinn_add, show s.1 + (i - s.1) = i by omega, show iinn H lev i 1 s = istp H lev s i from rfl, istp_yes s hh]
  rfl

/-- What hops are like: they go on, and never up, on levels that may be, and end ahead of where one looks on. -/
def IGood (lev : Nat) (s : Nat × List HopL) : Prop :=
  (∀ i, i < s.2.length → (s.2.getD i (0, 0)).1 ≤ 7 ∧ lev ≤ (s.2.getD i (0, 0)).1 ∧ (s.2.getD i (0, 0)).2 < s.1) ∧
  (∀ i, i < s.2.length → 0 < i → (s.2.getD (i - 1) (0, 0)).2 < (s.2.getD i (0, 0)).2 ∧ (s.2.getD i (0, 0)).1 ≤ (s.2.getD (i - 1) (0, 0)).1) ∧
  (s.1 = 0 ↔ s.2 = []) ∧ (s.2 ≠ [] → (s.2.getD (s.2.length - 1) (0, 0)).2 + 1 = s.1)
theorem IGood.low {lev lev' : Nat} {s : Nat × List HopL} (h : IGood lev s) (hl : lev' ≤ lev) : IGood lev' s :=
  ⟨fun i hi => ⟨(h.1 i hi).1, Nat.le_trans hl (h.1 i hi).2.1, (h.1 i hi).2.2⟩, h.2⟩
theorem IGood.hop {lev i : Nat} {s : Nat × List HopL} (h : IGood lev s) (h7 : lev ≤ 7) (hi : s.1 ≤ i) : IGood lev (i + 1, s.2 ++ [(lev, i)]) := by
  have a0 : ∀ k, k < s.2.length → (s.2 ++ [(lev, i)]).getD k (0, 0) = s.2.getD k (0, 0) := fun k hk => by simp [List.getD, List.getElem?_append, hk]
  have a1 : (s.2 ++ [(lev, i)]).getD s.2.length (0, 0) = (lev, i) := by simp [List.getD]
  refine ⟨fun k hk => ?_, fun k hk hp => ?_, by simp, fun _ => ?_⟩
  · simp only [List.length_append, List.length_singleton] at hk
    rcases Nat.lt_or_ge k s.2.length with h1 | h1
    · simp only [a0 k h1]
      have := h.1 k h1
      exact ⟨this.1, this.2.1, by omega⟩
    · obtain rfl : k = s.2.length := by omega
      simp only [a1]
      exact ⟨h7, Nat.le_refl _, by omega⟩
  · simp only [List.length_append, List.length_singleton] at hk
    rcases Nat.lt_or_ge k s.2.length with h1 | h1
    · simp only [a0 k h1, a0 (k - 1) (by omega)]
      exact h.2.1 k h1 hp
    · obtain rfl : k = s.2.length := by omega
      simp only [a1, a0 (s.2.length - 1) (by omega)]
      have := h.1 (s.2.length - 1) (by omega)
      exact ⟨by omega, this.2.1⟩
  · simp only [List.length_append, List.length_singleton, Nat.add_sub_cancel, a1]
theorem iinn_good {H : List Nat} {lev b : Nat} {s : Nat × List HopL} (h : IGood lev s) (h7 : lev ≤ 7) (hb : s.1 ≤ b) : ∀ d, IGood lev (iinn H lev b d s) ∧ (iinn H lev b d s).1 ≤ b + d := by
  intro d
  induction d with
  | zero => exact ⟨h, by rw [iinn_zero]; omega⟩
  | succ d ih =>
    rw [iinn_more]
    by_cases hh : lev < H.getD (b + d) 0
    · rw [istp_yes _ hh]
      exact ⟨ih.1.hop h7 ih.2, by show b + d + 1 ≤ _; omega⟩
    · rw [istp_no _ hh]
      exact ⟨ih.1, by omega⟩
theorem ilv_good (H : List Nat) : ∀ j, j ≤ 8 → IGood (8 - j) (ilv H j) ∧ (ilv H j).1 ≤ H.length := by
  intro j
  induction j with
  | zero => intro _; exact ⟨⟨fun i hi => absurd hi (by simp [ilv]), fun i hi => absurd hi (by simp [ilv]), by simp [ilv], by simp [ilv]⟩, Nat.zero_le _⟩
  | succ j ih =>
    intro hj
    obtain ⟨h1, h2⟩ := ih (by omega)
    have h3 := iinn_good (H := H) (lev := 7 - j) (h1.low (by omega)) (by omega) (Nat.le_refl _) (H.length - (ilv H j).1)
    rw [show 8 - (j + 1) = 7 - j by omega]
    exact ⟨h3.1, by have := h3.2; rw [ilv, ilev]; omega⟩
/-- On the lowest level one comes behind the last item. -/
theorem iinn_all {H : List Nat} {b : Nat} {s : Nat × List HopL} : ∀ {d : Nat}, (∀ j, b ≤ j → j < b + d → 0 < H.getD j 0) → 0 < d → (iinn H 0 b d s).1 = b + d := by
  intro d h hd
  obtain ⟨e, rfl⟩ : ∃ e, d = e + 1 := ⟨d - 1, by omega⟩
  rw [iinn_more, istp_yes _ (h (b + e) (by omega) (by omega))]
  rfl
theorem ihops_good (H : List Nat) : IGood 0 (ilv H 8) := (ilv_good H 8 (Nat.le_refl _)).1
theorem ihops_end {H : List Nat} (h : ∀ j, j < H.length → 0 < H.getD j 0) : (ilv H 8).1 = H.length := by
  have h1 := (ilv_good H 7 (by omega)).2
  show (iinn H 0 (ilv H 7).1 (H.length - (ilv H 7).1) (ilv H 7)).1 = H.length
  rcases Nat.lt_or_ge (ilv H 7).1 H.length with h2 | h2
  · rw [iinn_all (fun j _ hj => h j (by omega)) (by omega)]; omega
  · rw [show H.length - (ilv H 7).1 = 0 by omega, iinn_zero]; omega
theorem ihops_none {H : List Nat} (h : ∀ j, j < H.length → 0 < H.getD j 0) : ihops H = [] ↔ H = [] := by
  have h1 := (ihops_good H).2.2.1
  rw [ihops_end h] at h1
  rw [ihops, ← h1, List.length_eq_zero_iff]
theorem ihops_last {H : List Nat} (h : ∀ j, j < H.length → 0 < H.getD j 0) (h0 : 0 < H.length) : ((ihops H).getD ((ihops H).length - 1) (0, 0)).2 + 1 = H.length := by
  have h1 := (ihops_good H).2.2.2 (fun e => by have := (ihops_none h).1 e; rw [this] at h0; simp at h0)
  rwa [ihops_end h] at h1
/-- How many hops there may be. -/
theorem ihops_len (H : List Nat) : (ihops H).length ≤ H.length := by
  have hg := ihops_good H
  have key : ∀ i, i < (ilv H 8).2.length → i ≤ ((ilv H 8).2.getD i (0, 0)).2 := by
    intro i
    induction i with
    | zero => intro _; exact Nat.zero_le _
    | succ i ih =>
      intro hi
      have h1 := ih (by omega)
      have h2 := (hg.2.1 (i + 1) hi (by omega)).1
      rw [Nat.add_sub_cancel] at h2
      omega
  rw [ihops]
  rcases Nat.eq_zero_or_pos (ilv H 8).2.length with h0 | h0
  · omega
  · have h1 := key ((ilv H 8).2.length - 1) (by omega)
    have h2 := (hg.1 ((ilv H 8).2.length - 1) (by omega)).2.2
    have h3 := (ilv_good H 8 (Nat.le_refl _)).2
    omega
/-- .. at any time: no more than the place from which one looks on. -/
theorem IGood.len {lev : Nat} {s : Nat × List HopL} (hg : IGood lev s) : s.2.length ≤ s.1 := by
  have key : ∀ i, i < s.2.length → i ≤ (s.2.getD i (0, 0)).2 := by
    intro i
    induction i with
    | zero => intro _; exact Nat.zero_le _
    | succ i ih =>
      intro hi
      have h1 := ih (by omega)
      have h2 := (hg.2.1 (i + 1) hi (by omega)).1
      rw [Nat.add_sub_cancel] at h2
      omega
  rcases Nat.eq_zero_or_pos s.2.length with h0 | h0
  · omega
  · have h1 := key (s.2.length - 1) (by omega)
    have h2 := (hg.1 (s.2.length - 1) (by omega)).2.2
    omega
end Go.Proofs.YtjonhenllhnibaaGreatDoor
/- The contracts of the reference's Keys, next, Hops and HopsSame. -/
namespace Go.Proofs.YtjonhenllhnibaaGreatDoor
open Go.RowKit

set_option maxRecDepth 100000 in
set_option maxHeartbeats 4000000 in
theorem irkeys_any (A : Option Addr) (n c : Nat) (L : List ItL) (w : World) (hA : IR w A L) (hl : L.length = n) (hn : n ≤ 65536) :
    Calls Tryz.prog 39 #[.slice A n c] w fun e w' => ∃ g c', e = .returned (.slice (some ⟨g, 0, none⟩) n c') ∧ w'.ownsRow w.heap.size 23 1 (.slice (some ⟨g, 0, none⟩) n c') n ((ikeys L).map vu) ∧ Below w.heap.size w w' := by
  obtain ⟨ti, hti, hz0, hz1, hz2⟩ := info_parts infoVU
  have HR := Lib.hid (fun j W (hj : j < n) (hb : Below w.heap.size w W) => (hA.later hb) j (by omega))
  have HTl : Hid ((ikeys L).length = n) := Lib.hid (by rw [ikeys_len, hl])
  have HX : Hid (∀ j, j < n → (ikeys L).getD j 0 = (L.getD j (0, [])).1) := Lib.hid (fun j hj => ikeys_at L j (by omega))
  clear hA hl
  generalize ikeys L = T at *
  have HTS : Hid (∀ j, j < n → (T.take (j + 1)).map vu = (T.take j).map vu ++ [vu (T.getD j 0)]) := Lib.hid (fun j hj => by
    rw [List.take_add_one, List.map_append]
    have : j < T.length := by rw [HTl.out]; exact hj
    simp [List.getD, this])
  have HO : Hid ((w.alloc (.cells #[] 23)).ownsRow w.heap.size 23 1 (.slice (some ⟨w.heap.size, 0, none⟩) 0 0) 0 ((T.take 0).map vu)) := Lib.hid (own_nil (Blk.new w _ _) (Nat.le_refl _))
  have HB : Hid (Below w.heap.size w (w.alloc (.cells #[] 23))) := Lib.hid (ba (Below.refl _ _) _)
  go_enter Tryz.func39, Tryz.ntmps39
  go_upto_region 2 with fail
  generalize w.alloc (.cells #[] 23) = w1 at *
  go_wp2_with fail
  go_loopw [3, 9] (fun ov iv wr => ∃ (j g5 c5 : Nat), j ≤ n ∧ iv = .int .i64 (j : Int) ∧ ov = .slice (some ⟨g5, 0, none⟩) j c5 ∧ Hid (wr.ownsRow w.heap.size 23 1 (.slice (some ⟨g5, 0, none⟩) j c5) j ((T.take j).map vu)) ∧ Hid (Below w.heap.size w wr)) (fun _ i _ => n - (intOf i).toNat)
  case atStart => exact ⟨0, w.heap.size, 0, Nat.zero_le _, rfl, rfl, HO, HB⟩
  case round =>
    clear HB HO
    obtain ⟨j, g5, c5, hj, rfl, rfl, HO, HB⟩ := hrel
    by_cases hlt : j < n
    · obtain ⟨g, off, rfl, c0, c1⟩ := HR.out j wr hlt HB.out
      have HTj := Lib.hid (HTS.out j hlt)
      rw [HX.out j hlt] at HTj
      generalize L.getD j (0, []) = x at c0 c1 HTj
      obtain ⟨xk, xs⟩ := x
      simp only at c0 c1 HTj
      have i0 : (0 : Int) ≤ (j : Int) := by omega
      have i1 : (j : Int) < (n : Int) := by omega
      have hO1 := HO.out.alloc (.cells #[.int .u64 (xk : Int), sv xs] 42)
      have hB1 := ba HB.out (.cells #[.int .u64 (xk : Int), sv xs] 42)
      have hownA := hO1.alloc (.cells #[vu xk] 23)
      have hnews := World.news_of_block (heap_alloc_new (wr.alloc (.cells #[.int .u64 (xk : Int), sv xs] 42)) (.cells #[vu xk] 23))
      have B3 := Lib.hid (ba hB1 (.cells #[vu xk] 23))
      rw [World.size_alloc] at hnews
      clear hO1 hB1
      go_wp2_with (at_builtin; refine wpList_append_own _ rfl _ _ 58 rfl w.heap.size 23 ti _ 1 8 Tryz.underlying58 hti hz0 hz1 hz2 rfl (by decide) _ _ _ rfl hownA ⟨wr.heap.size + 1, 0, none⟩ 1 1 [vu xk] rfl rfl hnews (by simp [Value.oneCell']) (by unfold maxLen; omega) (by omega) (by have := B3.out.size; exact this) ?_; intro v4 w5 hown5 hgrow5 _; obtain ⟨g6, c6, rfl⟩ := ownsRow_succ hown5)
      have B5 := Lib.hid (B3.out.grown hgrow5 B3.out.size (fun k e => by have := (hownA.lt k e).1; omega))
      rw [← HTj.out] at hown5
      have W5 := Lib.hid hown5
      clear hown5 hgrow5 hnews hownA
      go_wp2_with fail
      exact ⟨⟨j + 1, g6, c6, by omega, by go_num, rfl, W5, B5⟩, by simp [intOf]; omega⟩
    · obtain rfl : j = n := by omega
      have HTA : Hid (T.take j = T) := Lib.hid (by rw [← HTl.out, List.take_length])
      rw [HTA.out] at HO
      go_wp2
      go_ret
      exact ⟨_, _, rfl, HO.out, HB.out⟩

/-- The first item from a place on that is above a level; how many there are, if there is none. -/
def INx (H : List Nat) (lev b i : Nat) : Prop := b ≤ i ∧ i ≤ H.length ∧ (∀ j, b ≤ j → j < i → ¬ lev < H.getD j 0) ∧ (i < H.length → lev < H.getD i 0)
theorem inx_is (H : List Nat) (lev : Nat) : ∀ d b, b + d = H.length → ∃ i, INx H lev b i := by
  intro d
  induction d with
  | zero => intro b hb; exact ⟨b, Nat.le_refl _, by omega, fun j h1 h2 => by omega, fun h => by omega⟩
  | succ d ih =>
    intro b hb
    by_cases h : lev < H.getD b 0
    · exact ⟨b, Nat.le_refl _, by omega, fun j h1 h2 => by omega, fun _ => h⟩
    · obtain ⟨i, h1, h2, h3, h4⟩ := ih (b + 1) (by omega)
      refine ⟨i, by omega, h2, fun j h5 h6 => ?_, h4⟩
      rcases Nat.lt_or_ge b j with h7 | h7
      · exact h3 j h7 h6
      · obtain rfl : j = b := by omega
        exact h

end Go.Proofs.YtjonhenllhnibaaGreatDoor
/- The contract of the reference's Right. -/
namespace Go.Proofs.YtjonhenllhnibaaGreatDoor
open Go.RowKit

set_option maxRecDepth 100000 in
set_option maxHeartbeats 8000000 in
theorem irright_ref (A : Option Addr) (n c : Nat) (L : List ItL) (w : World) (hA : IR w A L) (hl : L.length = n) (hc : n ≤ c) (hn : n ≤ 1024) :
    Calls Tryz.prog 12 #[.slice A n c] w fun e w' => e = .returned (.bool (decide (IRt L))) ∧ Below w.heap.size w w' := by
  have HA := Lib.hid hA
  have HV : Hid (∀ j, j < n → ¬ (L.getD j (0, [])).2.length ≤ 64 → decide (IRt L) = false) := Lib.hid fun j hj h => decide_eq_false fun hr => h (hr.2.1 j (by omega))
  have HK : Hid (∀ i j, i < j → j < n → ¬ (L.getD i (0, [])).1 < (L.getD j (0, [])).1 → decide (IRt L) = false) := Lib.hid fun i j hi hj h => decide_eq_false fun hr => h (hr.up i j hi (by omega))
  have HY : Hid ((∀ j, j < n → (L.getD j (0, [])).2.length ≤ 64) → (∀ j, j < n → ∀ i, i < j → ik L i < ik L j) → decide (IRt L) = decide (n ≤ 64)) := Lib.hid fun a b => by
    by_cases h : n ≤ 64
    · rw [decide_eq_true h]
      exact decide_eq_true ⟨by omega, fun j hj => a j (by omega), fun j hj hp => b j (by omega) (j - 1) (by omega)⟩
    · rw [decide_eq_false h]
      exact decide_eq_false fun hr => h (by have := hr.1; omega)
  have HL := Lib.hid hl
  generalize decide (IRt L) = R at HV HK HY ⊢
  clear hA hl
  go_enter Tryz.func12, Tryz.ntmps12
  go_wp2_with fail
  go_loopw [9] (fun iv wr => ∃ j : Nat, j ≤ n ∧ iv = .int .i64 (j : Int) ∧ Hid (∀ i, i < j → (L.getD i (0, [])).2.length ≤ 64) ∧ Hid (∀ t, t < j → ∀ i, i < t → ik L i < ik L t) ∧ Below w.heap.size w wr) (fun i _ => n - (intOf i).toNat)
  case atStart => exact ⟨0, Nat.zero_le _, rfl, Lib.hid (fun j hj => by omega), Lib.hid (fun j hj => by omega), Below.refl _ _⟩
  case round =>
    obtain ⟨j, hj, rfl, HJ, HJ2, hb⟩ := hrel
    by_cases hlt : j < n
    · obtain ⟨g, off, rfl, c0, c1⟩ := (HA.out.later hb) j (by rw [HL.out]; exact hlt)
      have HV1 := Lib.hid (HV.out j hlt)
      have HK1 := Lib.hid (fun i (hi : i < j) => HK.out i j hi hlt)
      have HJ1 : Hid ((L.getD j (0, [])).2.length ≤ 64 → ∀ i, i < j + 1 → (L.getD i (0, [])).2.length ≤ 64) := Lib.hid fun h i hi => by
        by_cases e : i = j
        · rw [e]; exact h
        · exact HJ.out i (by omega)
      have HJ3 : Hid ((∀ i, i < j → (L.getD i (0, [])).1 < (L.getD j (0, [])).1) → ∀ t, t < j + 1 → ∀ i, i < t → ik L i < ik L t) := Lib.hid fun h t ht i hi => by
        by_cases e : t = j
        · subst e; exact h i hi
        · exact HJ2.out t (by omega) i hi
      have hcut := fun W => icut_run (some ⟨g, off, none⟩) n c j (by omega) W
      generalize L.getD j (0, []) = x at *
      obtain ⟨xk, xs⟩ := x
      simp only at c0 c1 HV1 HK1 HJ1 HJ3
      have i0 : (0 : Int) ≤ (j : Int) := by omega
      have i1 : (j : Int) < (n : Int) := by omega
      have hz := isize xs
      by_cases hx : xs.length ≤ 64
      · have hx2 : ¬ (64 : Int) < (xs.length : Int) := by omega
        have HJ4 := Lib.hid (HJ1.out hx)
        obtain ⟨z, hz9⟩ : ∃ z, wr.heap.size = z := ⟨_, rfl⟩
        have HB0 := Lib.hid (ba hb (.cells #[.int .u64 (xk : Int), sv xs] 42))
        have HX0 : Hid (Blk (wr.alloc (.cells #[.int .u64 (xk : Int), sv xs] 42)) z 42 #[.int .u64 (xk : Int), sv xs]) := Lib.hid (Blk.newAt hz9 _ _)
        clear HV1 HJ1 HV HY
        go_wp2_with fail
        go_loopw [22] (fun tv wi => ∃ t : Nat, t ≤ j ∧ tv = .int .i64 (t : Int) ∧ Hid (∀ i, i < t → (L.getD i (0, [])).1 < xk) ∧ Hid (Blk wi z 42 #[.int .u64 (xk : Int), sv xs]) ∧ Hid (Below w.heap.size w wi)) (fun i _ => j - (intOf i).toNat)
        case atStart => exact ⟨0, Nat.zero_le _, rfl, Lib.hid (fun i hi => by omega), HX0, HB0⟩
        case round =>
          clear HX0 HB0 c0 c1 hb
          obtain ⟨t, ht, rfl, HT, HX, HB⟩ := hrel
          by_cases hlt2 : t < j
          · obtain ⟨g', off', e, d0, d1⟩ := (HA.out.later HB.out) t (by rw [HL.out]; omega)
            obtain ⟨rfl, rfl⟩ : g = g' ∧ off = off' := by injection e with e; injection e with e1 e2; exact ⟨e1, e2⟩
            have HK2 := Lib.hid (HK1.out t hlt2)
            have HT1 : Hid ((L.getD t (0, [])).1 < xk → ∀ i, i < t + 1 → (L.getD i (0, [])).1 < xk) := Lib.hid fun h i hi => by
              by_cases e : i = t
              · rw [e]; exact h
              · exact HT.out i (by omega)
            generalize L.getD t (0, []) = y at *
            obtain ⟨yk, ys⟩ := y
            simp only at d0 d1 HK2 HT1
            have t0 : (0 : Int) ≤ (t : Int) := by omega
            have t1 : (t : Int) < (j : Int) := by omega
            have HX2 := Lib.hid (HX.out.alloc (.cells #[.int .u64 (yk : Int), sv ys] 42))
            have HB2 := Lib.hid (ba HB.out (.cells #[.int .u64 (yk : Int), sv ys] 42))
            have k0 := HX2.out.cell 0
            simp only [List.getElem?_toArray, List.getElem?_cons_zero] at k0
            by_cases hy : yk < xk
            · have HT2 := Lib.hid (HT1.out hy)
              have hy2 : ¬ (xk : Int) ≤ (yk : Int) := by omega
              go_wp2_with fail
              exact ⟨⟨t + 1, by omega, by go_num, HT2, HX2, HB2⟩, by simp [intOf]; omega⟩
            · have HR := Lib.hid (HK2.out hy)
              have hy2 : (xk : Int) ≤ (yk : Int) := by omega
              go_wp2_with fail
              go_ret
              rw [HR.out]
              exact ⟨rfl, HB2.out⟩
          · obtain rfl : t = j := by omega
            have HJ5 := Lib.hid (HJ3.out HT.out)
            have hb2 := HB.out
            go_wp2_with fail
            exact ⟨⟨t + 1, by omega, by go_num, HJ4, HJ5, hb2⟩, by simp [intOf]; omega⟩
      · have hx2 : (64 : Int) < (xs.length : Int) := by omega
        have HR := Lib.hid (HV1.out hx)
        clear HJ1 HJ3 HK1 HV HY HK
        go_wp2_with fail
        go_ret
        rw [HR.out]
        exact ⟨rfl, ba hb _⟩
    · obtain rfl : j = n := by omega
      have HR := Lib.hid (HY.out HJ.out HJ2.out)
      have hd : decide ((j : Int) ≤ 64) = decide (j ≤ 64) := by by_cases h : j ≤ 64 <;> simp [h] <;> omega
      go_wp2
      go_ret
      rw [HR.out]
      exact ⟨rfl, hb⟩
end Go.Proofs.YtjonhenllhnibaaGreatDoor
