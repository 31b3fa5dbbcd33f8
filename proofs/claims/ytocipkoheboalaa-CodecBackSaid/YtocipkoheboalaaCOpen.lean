/- A parameter that is a slice of fields, opened: its fields, and where they lie; and cut. -/
import Derived.Test.YtocipkoheboalaaCRef
import Derived.Test.YtocipkoheboalaaCRises
import Derived.Deep.Slices
import Derived.Deep.Fields
import Derived.ChangeSame
import Derived.ChangeMaps5
import Derived.ChangeArms
namespace Go.Proofs.Ytocipkoheboalaa
open Go.ChangeShapes Go.WideShapes Go.ChangeAt Go.RowKit Go.Joins Go.Deep
section
variable {H : Type} {enc : TypeId × Value → H} {P : Program} {w : World} {base : Nat} {spare : Nat → Bool} {held : Bool}
theorem open_slice_fields {t e : TypeId} {fs : Array Field} {fuel : Nat} {cs : List Value} {x : DataW H × List MemPlace} (ht : P.underlying t = some (.slice e)) (he : P.underlying e = some (.struct fs))
    (hone : oneCellFields P fs = true) (hC : P.cellsOf e = fs.size) (h : DataW.trod enc P w base spare held fuel t cs = some x) :
    (cs = [.slice none 0 0] ∧ x = (.nil, [])) ∨
    ∃ (a : Addr) (len cap m : Nat) (D : Nat → DataW H) (Pl : Nat → List MemPlace), cs = [.slice (some a) len cap] ∧ base ≤ a.block ∧ len ≤ cap ∧ cap ≤ maxLen ∧ m = (if spare a.block then cap else len) ∧
      x = (.slice ((List.range len).map D) ((List.range (m - len)).map fun j => D (len + j)), MemPlace.row a (m * fs.size) ++ (List.range m).flatMap Pl) ∧
      ∀ i, i < m → ∃ (ys : List (DataW H × List MemPlace)) (n : Nat), D i = .agg (ys.map (·.1)) ∧ Pl i = ys.flatMap (·.2) ∧ ys.length = fs.size ∧
        ∀ (j : Nat) (f : Field), fs[j]? = some f → ∃ (v : Value) (y : DataW H × List MemPlace), w.cell? (a.add (i * fs.size + j)) = some v ∧ ys[j]? = some y ∧ DataW.trod enc P w base spare held n f.type [v] = some y := by
  rcases open_slice ht h with h0 | ⟨a, len, cap, m, n, D, Pl, hcs, hb, hl, hm, hmm, hx, hi⟩
  · exact .inl h0
  · refine .inr ⟨a, len, cap, m, D, Pl, hcs, hb, hl, hm, hmm, by rw [hC] at hx; exact hx, fun i him => ?_⟩
    obtain ⟨cs', hc, ht'⟩ := hi i him
    rw [hC] at hc
    obtain ⟨ys, n', hn', hy, hlen, hyl, hf⟩ := DataW.trod_struct he ht'
    obtain ⟨_, hcl, hat⟩ := World.cells?_some hc
    simp only [Prod.mk.injEq] at hy
    refine ⟨ys, n', hy.1, hy.2, hyl, fun j f hj => ?_⟩
    obtain ⟨ho, hk⟩ := hone_of hone j f hj
    have hjl : j < fs.size := (Array.getElem?_eq_some_iff.1 hj).1
    have hcell := hat j hjl
    have hv : cs'[j]? = some (cs'[j]'(by omega)) := List.getElem?_eq_getElem (by omega)
    have h1 := hf j f hj
    rw [ho, hk] at h1
    have hone' : (cs'.drop j).take 1 = [cs'[j]'(by omega)] := by
      rw [List.drop_eq_getElem_cons (by omega)]
      rfl
    rw [hone'] at h1
    have hys : ys[j]? = some (ys[j]'(by omega)) := List.getElem?_eq_getElem (by omega)
    refine ⟨_, _, ?_, hys, h1.trans hys⟩
    rw [← Go.Deep.add_add, hcell, hv]
end

theorem list_of {Q : Nat → Fld → Prop} (n : Nat) (h : ∀ i, i < n → ∃ p, Q i p) : ∃ L : List Fld, L.length = n ∧ ∀ i (hi : i < L.length), Q i L[i] := by
  induction n with
  | zero => exact ⟨[], rfl, fun i hi => absurd hi (Nat.not_lt_zero i)⟩
  | succ n ih =>
    obtain ⟨L, hl, hq⟩ := ih (fun i hi => h i (by omega))
    obtain ⟨p, hp⟩ := h n (by omega)
    refine ⟨L ++ [p], by simp [hl], fun i hi => ?_⟩
    rw [List.getElem_append]
    split
    · exact hq i (by assumption)
    · have : i = n := by simp at hi; omega
      subst this
      simpa using hp
theorem cellsF : Try.prog.cellsOf 33 = 3 := by kernel_rfl
theorem str_list (s : ByteArray) : ∃ l : List UInt8, s = ⟨l.toArray⟩ ∧ l.length = s.size := ⟨s.data.toList, rfl, Array.length_toList⟩

theorem open_frow {H : Type} {enc : TypeId × Value → H} {W : World} {base : Nat} {sp : Nat → Bool} {r : Reach} {b0 : Nat} {v : Value} {d : DataW H} {p : List MemPlace}
    (hv : Value.okWide Try.prog W r b0 23 v) (h : DataW.Trod enc Try.prog W base sp true 23 v d p) :
    ∃ (A : Option Addr) (cap : Nat) (L : List Fld), v = .slice A L.length cap ∧ L.length ≤ cap ∧ cap ≤ 9223372036854775807 ∧ (∀ x ∈ L, NumF x) ∧ FR W A L := by
  obtain ⟨a0, len0, cap0, rfl⟩ := okWide_slice Try.underlying23 hv
  obtain ⟨fuel, hf⟩ := h
  rcases open_slice_fields Try.underlying23 Try.underlying33 (by kernel_rfl) cellsF hf with ⟨hcs, _⟩ | ⟨a, len, cap, m, D, Pl, hcs, _, hle, hcap, hm, _, hi⟩
  · refine ⟨none, 0, [], by simpa [Value.cells] using hcs, Nat.le_refl _, by omega, by simp, FR.nil _ _⟩
  · have hml : len ≤ m := by rw [hm]; split <;> omega
    obtain ⟨L, hL, hq⟩ := list_of (Q := fun i q => NumF q ∧ W.cell? (a.add (i * 3)) = some (.bool q.1) ∧ W.cell? (a.add (i * 3 + 1)) = some (.int .u64 (q.2.1 : Int)) ∧ W.cell? (a.add (i * 3 + 2)) = some (.string ⟨q.2.2.toArray⟩)) len (fun i hil => by
      obtain ⟨ys, n, _, _, _, hff⟩ := hi i (by omega)
      obtain ⟨u0, y0, c0, _, t0⟩ := hff 0 _ rfl
      obtain ⟨u1, y1, c1, _, t1⟩ := hff 1 _ rfl
      obtain ⟨u2, y2, c2, _, t2⟩ := hff 2 _ rfl
      obtain ⟨b, e0, _⟩ := DataW.trod_bool Try.underlying4 t0
      obtain ⟨x, e1, _, wx⟩ := DataW.trod_int Try.underlying22 t1
      obtain ⟨s, e2, _, ws⟩ := DataW.trod_string Try.underlying9 t2
      simp at e0 e1 e2
      subst e0 e1 e2
      obtain ⟨x0, x1⟩ := u64_bounds wx
      obtain ⟨x, rfl⟩ := Int.eq_ofNat_of_zero_le x0
      obtain ⟨l, rfl, hl⟩ := str_list s
      unfold maxLen at ws
      exact ⟨(b, x, l), ⟨by simp only; omega, by simp only; omega⟩, c0, c1, c2⟩)
    unfold maxLen at hcap
    refine ⟨some a, cap, L, by rw [hL]; simpa [Value.cells] using hcs, by omega, hcap, fun q hq' => ?_, fun j hj => ?_⟩
    · obtain ⟨j, hj, rfl⟩ := List.getElem_of_mem hq'
      exact (hq j hj).1
    · obtain ⟨_, q0, q1, q2⟩ := hq j hj
      obtain ⟨g, off, s⟩ := a
      have hs : s = none := by
        have := (hq 0 (by omega)).2.1
        simpa [Addr.add] using World.cell?_spot this
      subst hs
      rw [Go.WideShapes.add_plain] at q0 q1 q2
      rw [← Nat.add_assoc] at q1 q2
      exact ⟨g, off, rfl, q0, q1, q2⟩

theorem FR.take {w : World} {A : Option Addr} {L : List Fld} (h : FR w A L) (m : Nat) : FR w A (L.take m) := fun j hj => by
  have hj' : j < L.length := by rw [List.length_take] at hj; omega
  obtain ⟨g, off, e, h0, h1, h2⟩ := h j hj'
  refine ⟨g, off, e, ?_⟩
  rw [List.getElem_take]
  exact ⟨h0, h1, h2⟩
theorem cut_run (A : Option Addr) (len cap m : Nat) (hm : m ≤ cap) (W : World) : (Instr.slice 23 (.slice A len cap) none (some (.int .i64 (m : Int))) none).run Try.prog W = .ok (.slice A m cap) W := by
  obtain ⟨i, hi⟩ : ∃ i, Try.prog.info? 33 = some i := Option.isSome_iff_exists.1 (by kernel_rfl)
  have hb : (Instr.sliceBounds true len cap none (some (.int .i64 (m : Int))) none).run Try.prog W = .ok (0, m, cap) W := by
    have h1 : (0 : Int) ≤ (m : Int) ∧ (m : Int) ≤ (cap : Int) := by omega
    simp [Instr.sliceBounds, Instr.sliceBound, asIntOf, h1]
    omega
  have hA : (if cap = 0 then A else A.map fun x => x.add (0 * i.size)) = A := by
    split
    · rfl
    · cases A <;> simp [Addr.add]
  simp [Instr.slice, run_underlying (P := Try.prog) (w := W) Try.underlying23, hb, sizeOf, typeInfo, hi]
  simpa using hA
end Go.Proofs.Ytocipkoheboalaa
