/- A []string that came in. Nothing of any function. -/
import Derived.Test.YtnehodipblabbaaBase0
import Derived.Test.YtnehodipblabbaaStr
import Derived.Deep.Strs
namespace Go.Proofs.Ytnehodipblabbaa
open Go.ChangeShapes Go.WideShapes Go.ChangeAt Go.RowKit Go.Joins Go.Deep

set_option maxRecDepth 100000 in
theorem open_texts {H : Type} {enc : TypeId × Value → H} {W : World} {base : Nat} {sp : Nat → Bool} {r : Reach} {b0 : Nat} {v : Value} {d : DataW H} {p : List MemPlace}
    (hv : Value.okWide Try.prog W r b0 22 v) (h : DataW.Trod enc Try.prog W base sp true 22 v d p) :
    ∃ (A : Option Addr) (cap : Nat) (L : List (List UInt8)), v = .slice A L.length cap ∧ L.length ≤ cap ∧ (L.length : Int) ≤ 9223372036854775807 ∧ (∀ j, ((L.getD j []).length : Int) ≤ 9223372036854775807) ∧ SR W A L := by
  obtain ⟨a0, len0, cap0, rfl⟩ := okWide_slice Try.underlying22 hv
  obtain ⟨fuel, hf⟩ := h
  rcases open_strs Try.underlying22 Try.underlying9 (by kernel_rfl) hf with ⟨hcs, _⟩ | ⟨a, len, cap, m, Sx, hcs, _, hle, hcap, hm, _, hcell⟩
  · exact ⟨none, 0, [], by simpa [Value.cells] using hcs, Nat.le_refl _, by simp, by simp, SR.nil _ _⟩
  · have hlm : len ≤ m := by rw [hm]; split <;> omega
    unfold maxLen at hcap
    have hLl : ((List.range len).map fun i => (Sx i).data.toList).length = len := by simp
    have hat : ∀ j, j < len → ((List.range len).map fun i => (Sx i).data.toList).getD j [] = (Sx j).data.toList := fun j hj => by simp [List.getD, hj]
    refine ⟨some a, cap, (List.range len).map fun i => (Sx i).data.toList, by rw [hLl]; simpa [Value.cells] using hcs, by omega, by omega, fun j => ?_, fun j hj => ?_⟩
    · by_cases hj : j < len
      · rw [hat j hj]
        have := (hcell j (by omega)).2
        unfold maxLen at this
        have e : (Sx j).data.toList.length = (Sx j).size := Array.length_toList
        omega
      · rw [List.getD, List.getElem?_eq_none (by omega)]
        simp
    · rw [hLl] at hj
      have hc := (hcell j (by omega)).1
      obtain ⟨g, off, s⟩ := a
      have hs : s = none := by
        have := (hcell 0 (by omega)).1
        simpa [Addr.add] using World.cell?_spot this
      subst hs
      rw [Go.WideShapes.add_plain] at hc
      exact ⟨g, off, rfl, by rw [hat j hj, hc]⟩
end Go.Proofs.Ytnehodipblabbaa
