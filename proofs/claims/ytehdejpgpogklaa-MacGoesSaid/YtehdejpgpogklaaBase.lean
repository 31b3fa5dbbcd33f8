/- What every claim's last part wants: the parameters' forms, and a string's list. Nothing of any function. -/
import Derived.Test.YtehdejpgpogklaaMem
import Derived.Test.YtehdejpgpogklaaStr
import Derived.Deep.Strs
import Derived.Below
import Derived.Sort.Walk0
import Derived.ProofKit
import Derived.Lib.SmallJoins
import Derived.Deep.Slices
import Derived.Deep.Fields
import Derived.ChangeSame
import Derived.ChangeMaps5
import Derived.ChangeArms
namespace Go.Proofs.Ytehdejpgpogklaa
open Go.ChangeShapes Go.WideShapes Go.ChangeAt Go.RowKit Go.Joins Go.Deep

theorem str_list (s : ByteArray) : ∃ l : List UInt8, s = ⟨l.toArray⟩ ∧ l.length = s.size := ⟨s.data.toList, rfl, Array.length_toList⟩
theorem Try.own : ownKnob Try.prog.godebug = none := by kernel_rfl
theorem Try.laidOut : laidOutB Try.prog = true := by kernel_rfl
theorem extract_take (s : List UInt8) (m : Nat) : (⟨s.toArray⟩ : ByteArray).extract 0 m = ⟨(s.take m).toArray⟩ := by
  apply ByteArray.ext
  apply Array.toList_inj.1
  rw [Lib.extract_data]
  simp

/-- What the arguments read as stays, whatever the call makes. -/
theorem trodAll_below_ {H : Type} {enc : TypeId × Value → H} {P : Program} (hl : laidOutB P = true) {W W' : World} (hb : Below W.heap.size W W') (ts : List TypeId) : ∀ {vs : List Value} {ds : List (DataW H)} {ps : List MemPlace},
    DataW.TrodAll enc P W 0 (fun _ => true) true ts vs ds ps → (∀ t ∈ ts, P.readableRec t = true ∧ t < P.types.size) → (∀ x ∈ ps, x.block < W.heap.size) →
    DataW.TrodAll enc P W' 0 (fun b => decide (b < W.heap.size)) true ts vs ds ps := by
  induction ts with
  | nil =>
    intro vs ds ps h _ _
    obtain ⟨rfl, rfl, rfl⟩ := trodAll_nil h
    rfl
  | cons t ts ih =>
    intro vs ds ps h ha hlt
    obtain ⟨v, vs', d, ds', p, q, rfl, rfl, rfl, h1, h2⟩ := trodAll_cons h
    have ht := ha t (List.mem_cons_self)
    exact trodAll_cons_mk (Below.trod hl ht.1 ht.2 h1 hb fun x hx => hlt x (List.mem_append_left _ hx)) (ih h2 (fun t h => ha t (List.mem_cons_of_mem _ h)) fun x hx => hlt x (List.mem_append_right _ hx))
theorem all_readable {P : Program} {ts : List TypeId} (h : (ts.all fun t => P.readableRec t && decide (t < P.types.size)) = true) : ∀ t ∈ ts, P.readableRec t = true ∧ t < P.types.size := by
  intro t ht
  have := List.all_eq_true.1 h t ht
  simpa using this
theorem open_texts {H : Type} {enc : TypeId × Value → H} {W : World} {base : Nat} {sp : Nat → Bool} {r : Reach} {b0 : Nat} {v : Value} {d : DataW H} {p : List MemPlace}
    (hv : Value.okWide Try.prog W r b0 26 v) (h : DataW.Trod enc Try.prog W base sp true 26 v d p) :
    ∃ (A : Option Addr) (cap : Nat) (L : List (List UInt8)), v = .slice A L.length cap ∧ L.length ≤ cap ∧ (L.length : Int) ≤ 9223372036854775807 ∧ (∀ j, ((L.getD j []).length : Int) ≤ 9223372036854775807) ∧ SR W A L := by
  obtain ⟨a0, len0, cap0, rfl⟩ := okWide_slice Try.underlying26 hv
  obtain ⟨fuel, hf⟩ := h
  rcases open_strs Try.underlying26 Try.underlying9 (by kernel_rfl) hf with ⟨hcs, _⟩ | ⟨a, len, cap, m, Sx, hcs, _, hle, hcap, hm, _, hcell⟩
  · exact ⟨none, 0, [], by simpa [Value.cells] using hcs, Nat.le_refl _, by simp, by simp, SR.nil _ _⟩
  · have hlm : len ≤ m := by rw [hm]; split <;> omega
    unfold maxLen at hcap
    have hLl : ((List.range len).map fun i => (Sx i).data.toList).length = len := by simp
    have hat : ∀ j, j < len → ((List.range len).map fun i => (Sx i).data.toList).getD j [] = (Sx j).data.toList := fun j hj => by simp [List.getD, hj]
    refine ⟨some a, cap, (List.range len).map fun i => (Sx i).data.toList, by rw [hLl]; simpa [Value.cells] using hcs, by omega, by omega, fun j => ?_, fun j hj => ?_⟩
    · by_cases hj : j < len
      · rw [hat j hj]
        have := (hcell j (by omega)).2
        unfold maxLen at this
        have e : (Sx j).data.toList.length = (Sx j).size := Array.length_toList
        omega
      · rw [List.getD, List.getElem?_eq_none (by omega)]
        simp
    · rw [hLl] at hj
      have hc := (hcell j (by omega)).1
      obtain ⟨g, off, s⟩ := a
      have hs : s = none := by
        have := (hcell 0 (by omega)).1
        simpa [Addr.add] using World.cell?_spot this
      subst hs
      rw [Go.WideShapes.add_plain] at hc
      exact ⟨g, off, rfl, by rw [hat j hj, hc]⟩
end Go.Proofs.Ytehdejpgpogklaa
