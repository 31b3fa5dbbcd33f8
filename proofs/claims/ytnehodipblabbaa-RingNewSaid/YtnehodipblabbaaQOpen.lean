/- A parameter that is a ring, opened, and what few leaves of it. -/
import Derived.Test.YtnehodipblabbaaBase
import Derived.Test.YtnehodipblabbaaQRow
import Derived.ChangeSlices
namespace Go.Proofs.Ytnehodipblabbaa
open Go.ChangeShapes Go.WideShapes Go.ChangeAt Go.RowKit Go.Joins Go.Deep

/-- A ring that came in: as many slots as there are. -/
structure QIn (w : World) (A : Option Addr) (n c : Nat) (f m : Int) (L : List (List UInt8)) : Prop where
  row : SR w A L
  len : L.length = n
  nil : A = none → c = 0
  cap : n ≤ c
  from_ : -9223372036854775808 ≤ f ∧ f ≤ 9223372036854775807
  many : -9223372036854775808 ≤ m ∧ m ≤ 9223372036854775807
/-- What few leaves of it. -/
theorem QIn.few {w : World} {A : Option Addr} {n c : Nat} {f m : Int} {L : List (List UInt8)} (h : QIn w A n c f m L) : QM w A (min n 70) c (L.take 70) :=
  ⟨h.row.take 70, by rw [List.length_take, h.len, Nat.min_comm], h.nil, Nat.min_le_right _ _, Nat.le_trans (Nat.min_le_left _ _) h.cap⟩

set_option maxRecDepth 100000 in
/-- Texts that came in, where they stand inside a struct. -/
theorem qopen_texts {H : Type} {enc : TypeId × Value → H} {W : World} {base fuel : Nat} {sp : Nat → Bool} {x : Value} {y : DataW H × List MemPlace}
    (hf : DataW.trod enc Try.prog W base sp true fuel 22 [x] = some y) :
    ∃ (A : Option Addr) (cap : Nat) (L : List (List UInt8)), x = .slice A L.length cap ∧ L.length ≤ cap ∧ SR W A L ∧ (A = none → cap = 0) := by
  rcases open_strs Try.underlying22 Try.underlying9 (by kernel_rfl) hf with ⟨hcs, _⟩ | ⟨a, len, cap, m, Sx, hcs, _, hle, hcap, hm, _, hcell⟩
  · exact ⟨none, 0, [], by simpa using hcs, Nat.le_refl _, SR.nil _ _, fun _ => rfl⟩
  · have hlm : len ≤ m := by rw [hm]; split <;> omega
    have hLl : ((List.range len).map fun i => (Sx i).data.toList).length = len := by simp
    have hat : ∀ j, j < len → ((List.range len).map fun i => (Sx i).data.toList).getD j [] = (Sx j).data.toList := fun j hj => by simp [List.getD, hj]
    refine ⟨some a, cap, (List.range len).map fun i => (Sx i).data.toList, by rw [hLl]; simpa using hcs, by omega, fun j hj => ?_, fun e => by cases e⟩
    rw [hLl] at hj
    have hc := (hcell j (by omega)).1
    obtain ⟨g, off, s⟩ := a
    have hs : s = none := by
      have := (hcell 0 (by omega)).1
      simpa [Addr.add] using World.cell?_spot this
    subst hs
    rw [Go.WideShapes.add_plain] at hc
    exact ⟨g, off, rfl, by rw [hat j hj, hc]⟩

set_option maxRecDepth 100000 in
/-- A ring that came in. -/
theorem open_ring {H : Type} {enc : TypeId × Value → H} {W : World} {base : Nat} {sp : Nat → Bool} {r : Reach} {b0 : Nat} {v : Value} {d : DataW H} {p : List MemPlace}
    (hv : Value.okWide Try.prog W r b0 24 v) (h : DataW.Trod enc Try.prog W base sp true 24 v d p) :
    ∃ (A : Option Addr) (n c : Nat) (f m : Int) (L : List (List UInt8)), v = qv A n c f m ∧ QIn W A n c f m L := by
  obtain ⟨cs, rfl, hcs⟩ := okWide_struct Try.underlying24 hv
  obtain ⟨fuel, hf⟩ := h
  have e0 : Try.prog.cellsOf 24 = 3 := by kernel_rfl
  rw [e0] at hcs
  obtain ⟨x, y, z, rfl⟩ : ∃ x y z, cs = #[x, y, z] := by
    obtain ⟨l⟩ := cs
    match l, hcs with
    | [x, y, z], _ => exact ⟨x, y, z, rfl⟩
  obtain ⟨y0, y1, y2, n, _, _, t0, t1, t2⟩ := trod_struct3 Try.underlying24 hf
  have e1 : Try.prog.cellsOf 3 = 1 := by kernel_rfl
  have e2 : Try.prog.cellsOf 22 = 1 := by kernel_rfl
  simp only [e2] at t0
  simp only [e1] at t1 t2
  obtain ⟨A, cap, L, rfl, h1, h2, h3⟩ := qopen_texts (by simpa [Value.cells] using t0)
  obtain ⟨n1, c1, _, w1⟩ := DataW.trod_int Try.underlying3 t1
  obtain ⟨n2, c2, _, w2⟩ := DataW.trod_int Try.underlying3 t2
  simp [Value.cells] at c1 c2
  exact ⟨A, L.length, cap, n1, n2, L, by rw [c1, c2], ⟨h2, rfl, h3, h1, i64_bounds w1, i64_bounds w2⟩⟩
end Go.Proofs.Ytnehodipblabbaa
