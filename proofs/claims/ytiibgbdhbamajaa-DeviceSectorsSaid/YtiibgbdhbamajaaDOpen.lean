/- A parameter that is a device, opened. -/
import Derived.Test.YtiibgbdhbamajaaBase
import Derived.Test.YtiibgbdhbamajaaDRow
namespace Go.Proofs.Ytiibgbdhbamajaa
open Go.ChangeShapes Go.WideShapes Go.ChangeAt Go.RowKit Go.Joins Go.Deep
section
variable {H : Type} {enc : TypeId × Value → H} {P : Program} {w : World} {base : Nat} {spare : Nat → Bool} {held : Bool}
theorem open_slice_fields {t e : TypeId} {fs : Array Field} {fuel : Nat} {cs : List Value} {x : DataW H × List MemPlace} (ht : P.underlying t = some (.slice e)) (he : P.underlying e = some (.struct fs))
    (hone : oneCellFields P fs = true) (hC : P.cellsOf e = fs.size) (h : DataW.trod enc P w base spare held fuel t cs = some x) :
    (cs = [.slice none 0 0] ∧ x = (.nil, [])) ∨
    ∃ (a : Addr) (len cap m : Nat) (D : Nat → DataW H) (Pl : Nat → List MemPlace), cs = [.slice (some a) len cap] ∧ base ≤ a.block ∧ len ≤ cap ∧ cap ≤ maxLen ∧ m = (if spare a.block then cap else len) ∧
      x = (.slice ((List.range len).map D) ((List.range (m - len)).map fun j => D (len + j)), MemPlace.row a (m * fs.size) ++ (List.range m).flatMap Pl) ∧
      ∀ i, i < m → ∃ (ys : List (DataW H × List MemPlace)) (n : Nat), D i = .agg (ys.map (·.1)) ∧ Pl i = ys.flatMap (·.2) ∧ ys.length = fs.size ∧
        ∀ (j : Nat) (f : Field), fs[j]? = some f → ∃ (v : Value) (y : DataW H × List MemPlace), w.cell? (a.add (i * fs.size + j)) = some v ∧ ys[j]? = some y ∧ DataW.trod enc P w base spare held n f.type [v] = some y := by
  rcases open_slice ht h with h0 | ⟨a, len, cap, m, n, D, Pl, hcs, hb, hl, hm, hmm, hx, hi⟩
  · exact .inl h0
  · refine .inr ⟨a, len, cap, m, D, Pl, hcs, hb, hl, hm, hmm, by rw [hC] at hx; exact hx, fun i him => ?_⟩
    obtain ⟨cs', hc, ht'⟩ := hi i him
    rw [hC] at hc
    obtain ⟨ys, n', hn', hy, hlen, hyl, hf⟩ := DataW.trod_struct he ht'
    obtain ⟨_, hcl, hat⟩ := World.cells?_some hc
    simp only [Prod.mk.injEq] at hy
    refine ⟨ys, n', hy.1, hy.2, hyl, fun j f hj => ?_⟩
    obtain ⟨ho, hk⟩ := hone_of hone j f hj
    have hjl : j < fs.size := (Array.getElem?_eq_some_iff.1 hj).1
    have hcell := hat j hjl
    have hv : cs'[j]? = some (cs'[j]'(by omega)) := List.getElem?_eq_getElem (by omega)
    have h1 := hf j f hj
    rw [ho, hk] at h1
    have hone' : (cs'.drop j).take 1 = [cs'[j]'(by omega)] := by
      rw [List.drop_eq_getElem_cons (by omega)]
      rfl
    rw [hone'] at h1
    have hys : ys[j]? = some (ys[j]'(by omega)) := List.getElem?_eq_getElem (by omega)
    refine ⟨_, _, ?_, hys, h1.trans hys⟩
    rw [← Go.Deep.add_add, hcell, hv]
end

theorem list_of {α : Type} {Q : Nat → α → Prop} (n : Nat) (h : ∀ i, i < n → ∃ p, Q i p) : ∃ L : List α, L.length = n ∧ ∀ i (hi : i < L.length), Q i L[i] := by
  induction n with
  | zero => exact ⟨[], rfl, fun i hi => absurd hi (Nat.not_lt_zero i)⟩
  | succ n ih =>
    obtain ⟨L, hl, hq⟩ := ih (fun i hi => h i (by omega))
    obtain ⟨p, hp⟩ := h n (by omega)
    refine ⟨L ++ [p], by simp [hl], fun i hi => ?_⟩
    rw [List.getElem_append]
    split
    · exact hq i (by assumption)
    · have : i = n := by simp at hi; omega
      subst this
      simpa using hp
theorem cellsP : Try.prog.cellsOf 47 = 2 := by kernel_rfl
theorem cellsD : Try.prog.cellsOf 25 = 2 := by kernel_rfl

/-- Texts that came in, where they stand inside a struct. -/
theorem open_texts_in {H : Type} {enc : TypeId × Value → H} {W : World} {base fuel : Nat} {sp : Nat → Bool} {x : Value} {y : DataW H × List MemPlace}
    (hf : DataW.trod enc Try.prog W base sp true fuel 22 [x] = some y) :
    ∃ (A : Option Addr) (cap : Nat) (L : List (List UInt8)), x = .slice A L.length cap ∧ L.length ≤ cap ∧ SR W A L ∧ (A = none → cap = 0) := by
  rcases open_strs Try.underlying22 Try.underlying9 (by kernel_rfl) hf with ⟨hcs, _⟩ | ⟨a, len, cap, m, Sx, hcs, _, hle, hcap, hm, _, hcell⟩
  · exact ⟨none, 0, [], by simpa using hcs, Nat.le_refl _, SR.nil _ _, fun _ => rfl⟩
  · have hlm : len ≤ m := by rw [hm]; split <;> omega
    have hLl : ((List.range len).map fun i => (Sx i).data.toList).length = len := by simp
    have hat : ∀ j, j < len → ((List.range len).map fun i => (Sx i).data.toList).getD j [] = (Sx j).data.toList := fun j hj => by simp [List.getD, hj]
    refine ⟨some a, cap, (List.range len).map fun i => (Sx i).data.toList, by rw [hLl]; simpa using hcs, by omega, fun j hj => ?_, fun e => by cases e⟩
    rw [hLl] at hj
    have hc := (hcell j (by omega)).1
    obtain ⟨g, off, s⟩ := a
    have hs : s = none := by
      have := (hcell 0 (by omega)).1
      simpa [Addr.add] using World.cell?_spot this
    subst hs
    rw [Go.WideShapes.add_plain] at hc
    exact ⟨g, off, rfl, by rw [hat j hj, hc]⟩

theorem open_puts_in {H : Type} {enc : TypeId × Value → H} {W : World} {base fuel : Nat} {sp : Nat → Bool} {x : Value} {y : DataW H × List MemPlace}
    (hf : DataW.trod enc Try.prog W base sp true fuel 23 [x] = some y) :
    ∃ (A : Option Addr) (cap : Nat) (L : List PutL), x = .slice A L.length cap ∧ L.length ≤ cap ∧ PR W A L ∧ (A = none → cap = 0) := by
  rcases open_slice_fields Try.underlying23 Try.underlying47 (by kernel_rfl) cellsP hf with ⟨hcs, _⟩ | ⟨a, len, cap, m, D, Pl, hcs, _, hle, hcap, hm, _, hi⟩
  · exact ⟨none, 0, [], by simpa using hcs, Nat.le_refl _, PR.nil _ _, fun _ => rfl⟩
  · have hml : len ≤ m := by rw [hm]; split <;> omega
    obtain ⟨L, hL, hq⟩ := list_of (Q := fun i (q : PutL) => W.cell? (a.add (i * 2)) = some (.int .i64 q.1) ∧ W.cell? (a.add (i * 2 + 1)) = some (sv q.2)) len (fun i hil => by
      obtain ⟨ys, n, _, _, _, hff⟩ := hi i (by omega)
      obtain ⟨u0, y0, c0, _, t0⟩ := hff 0 _ rfl
      obtain ⟨u1, y1, c1, _, t1⟩ := hff 1 _ rfl
      obtain ⟨x, e0, _, wx⟩ := DataW.trod_int Try.underlying3 t0
      obtain ⟨s, e1, _, ws⟩ := DataW.trod_string Try.underlying9 t1
      simp at e0 e1
      subst e0 e1
      obtain ⟨l, rfl, hl⟩ := str_list s
      exact ⟨(x, l), c0, c1⟩)
    refine ⟨some a, cap, L, by rw [hL]; simpa using hcs, by omega, fun j hj => ?_, fun e => by cases e⟩
    obtain ⟨q0, q1⟩ := hq j hj
    obtain ⟨g, off, s⟩ := a
    have hs : s = none := by
      have := (hq 0 (by omega)).1
      simpa [Addr.add] using World.cell?_spot this
    subst hs
    rw [Go.WideShapes.add_plain] at q0 q1
    rw [← Nat.add_assoc] at q1
    have e : L.getD j (0, []) = L[j] := by simp [List.getD, hj]
    rw [e]
    exact ⟨g, off, rfl, q0, q1⟩

/-- A device that came in. -/
theorem open_dev {H : Type} {enc : TypeId × Value → H} {W : World} {base : Nat} {sp : Nat → Bool} {r : Reach} {b0 : Nat} {v : Value} {d : DataW H} {p : List MemPlace}
    (hv : Value.okWide Try.prog W r b0 25 v) (h : DataW.Trod enc Try.prog W base sp true 25 v d p) :
    ∃ (A : Option Addr) (ca : Nat) (B : Option Addr) (cb : Nat) (S : List (List UInt8)) (C : List PutL), v = dv A S.length ca B C.length cb ∧ S.length ≤ ca ∧ C.length ≤ cb ∧ SR W A S ∧ PR W B C ∧ (A = none → ca = 0) ∧ (B = none → cb = 0) := by
  obtain ⟨cs, rfl, hcs⟩ := okWide_struct Try.underlying25 hv
  obtain ⟨fuel, hf⟩ := h
  rw [cellsD] at hcs
  obtain ⟨x, y, rfl⟩ : ∃ x y, cs = #[x, y] := by
    obtain ⟨l⟩ := cs
    match l, hcs with
    | [x, y], _ => exact ⟨x, y, rfl⟩
  obtain ⟨y0, y1, n, _, _, t0, t1⟩ := trod_struct2 Try.underlying25 hf
  have e0 : Try.prog.cellsOf 22 = 1 := by kernel_rfl
  have e1 : Try.prog.cellsOf 23 = 1 := by kernel_rfl
  simp only [e0] at t0
  simp only [e1] at t1
  obtain ⟨A, ca, S, rfl, h1, h2, h3⟩ := open_texts_in (by simpa [Value.cells] using t0)
  obtain ⟨B, cb, C, rfl, g1, g2, g3⟩ := open_puts_in (by simpa [Value.cells] using t1)
  exact ⟨A, ca, B, cb, S, C, rfl, h1, g1, h2, g2, h3, g3⟩
theorem u64_nat {n : Int} (h : (Lit.int .u64 n).wf = true) : ∃ m : Nat, n = (m : Int) ∧ m < 18446744073709551616 := by
  simp [Lit.wf] at h
  have h1 : IntKind.u64.min = 0 := by decide
  have h2 : IntKind.u64.max = 18446744073709551615 := by decide
  rw [h1, h2] at h
  exact ⟨n.toNat, by omega, by omega⟩
end Go.Proofs.Ytiibgbdhbamajaa
