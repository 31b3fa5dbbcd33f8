/- Texts of this seat, one behind the other: VRow, VOwn. -/
import Derived.Laws.MakeOwn
import Derived.RangeFuncBox
import Derived.RangeFuncNested
import Derived.RangeFuncBound
import Derived.RangeFuncCalls
import Derived.RangeFuncLeaves
import Derived.Shelf.Abstract
import Derived.Shelf.RegionOpen
import Derived.Test.YtbecambkjmheiaaQ01
/- Rows of numbers in memory (of type int, or uint64), and the words for a row that the call made. Nothing of any function. -/
namespace Go.Proofs.Ytbecambkjmheiaa
open Go.RowKit

/-- A number's cell: an int's, and a uint64's. -/
abbrev vi (x : Nat) : Value := .int .i64 (x : Int)
abbrev vu (x : Nat) : Value := .int .u64 (x : Int)
/-- A row that can be read: where it lies, if it has any. -/
def VR (q : Nat → Value) (w : World) (A : Option Addr) (L : List Nat) : Prop :=
  ∀ j, j < L.length → ∃ g off, A = some ⟨g, off, none⟩ ∧ w.cell? ⟨g, off + j, none⟩ = some (q (L.getD j 0))
section
variable {q : Nat → Value} {w w' : World} {A : Option Addr} {L : List Nat}
theorem VR.later (h : VR q w A L) (hb : Below w.heap.size w w') : VR q w' A L := fun j hj => by
  obtain ⟨g, off, e, h0⟩ := h j hj
  exact ⟨g, off, e, cell_later hb h0⟩
theorem VR.nil (q : Nat → Value) (w : World) (A : Option Addr) : VR q w A [] := fun j hj => absurd hj (by simp)
theorem vget_take (L : List Nat) (m j : Nat) (h : j < m) : (L.take m).getD j 0 = L.getD j 0 := by
  simp [List.getD, h]
theorem VR.take (h : VR q w A L) (m : Nat) : VR q w A (L.take m) := fun j hj => by
  rw [List.length_take] at hj
  obtain ⟨g, off, e, h0⟩ := h j (by omega)
  exact ⟨g, off, e, by rw [vget_take _ _ _ (by omega)]; exact h0⟩
theorem vqs_at (q : Nat → Value) (L : List Nat) (j : Nat) (h : j < L.length) : (L.map q)[j]? = some (q (L.getD j 0)) := by
  simp [List.getD, h]
theorem own_VR {W : World} {base : Nat} {e : TypeId} {n c : Nat} (h : W.ownsRow base e 1 (.slice A n c) n (L.map q)) (hl : L.length = n) : VR q W A L := by
  obtain ⟨A', c', e, hh⟩ := own_form h
  injection e with e1 e2 e3
  subst e1
  subst e3
  rcases hh with ⟨rfl, rfl, rfl⟩ | ⟨g, rfl, _⟩
  · obtain rfl : L = [] := List.eq_nil_of_length_eq_zero hl
    exact VR.nil _ _ _
  · intro j hj
    exact ⟨g, 0, rfl, by rw [Nat.zero_add, h.cellAt j (by omega), vqs_at q L j hj]⟩
theorem blk_VR {W : World} {g : Nat} {t : TypeId} (h : Blk W g t (L.map q).toArray) : VR q W (some ⟨g, 0, none⟩) L := fun j hj =>
  ⟨g, 0, rfl, by rw [Nat.zero_add, h.cell j, List.getElem?_toArray, vqs_at q L j hj]⟩
end
theorem vget_ext {L M : List Nat} {n : Nat} (hl : L.length = n) (hm : M.length = n) (h : ∀ j, j < n → L.getD j 0 = M.getD j 0) : L = M := by
  apply List.ext_getElem
  · rw [hl, hm]
  · intro i h1 h2
    have := h i (by omega)
    simpa [List.getD, h1, h2] using this
theorem infoVI : (Try.prog.info? 3).map (fun i => (i.zero, i.size, i.bytes)) = some (some (.int .i64 0), 1, 8) := by kernel_rfl

/-- What is filled so far: the first ones are as they are to be, the others 0. -/
def vfill (T : List Nat) (j : Nat) : List Nat := (List.range T.length).map fun i => if i < j then T.getD i 0 else 0
theorem vfill_zero (T : List Nat) : vfill T 0 = List.replicate T.length 0 := by
  apply List.ext_getElem
  · simp [vfill]
  · intro i h1 h2
    simp [vfill]
theorem vfill_all (T : List Nat) : vfill T T.length = T := by
  apply List.ext_getElem
  · simp [vfill]
  · intro i h1 h2
    have h3 : i < T.length := by simpa [vfill] using h1
    simp [vfill, h3, List.getD]
theorem vfill_set (T : List Nat) (j x : Nat) (hx : T.getD j 0 = x) : (vfill T j).set j x = vfill T (j + 1) := by
  subst hx
  apply List.ext_getElem
  · simp [vfill]
  · intro i h1 h2
    rw [List.getElem_set]
    simp only [vfill, List.getElem_map, List.getElem_range]
    by_cases hij : j = i
    · subst hij
      rw [if_pos rfl, if_pos (by omega)]
    · rw [if_neg hij]
      by_cases h1 : i < j
      · rw [if_pos h1, if_pos (by omega)]
      · rw [if_neg h1, if_neg (by omega)]
theorem vblk_fill {W : World} {g : Nat} {t : TypeId} {T : List Nat} {j x : Nat} (q : Nat → Value) (h : Blk W g t ((vfill T j).map q).toArray) (hx : T.getD j 0 = x) : Blk (W.setCell ⟨g, j, none⟩ (q x)) g t ((vfill T (j + 1)).map q).toArray := by
  have h2 := h.set_ j (q x)
  have e : ((vfill T j).map q).toArray.setIfInBounds j (q x) = ((vfill T (j + 1)).map q).toArray := by
    apply Array.toList_inj.1
    rw [Array.toList_setIfInBounds, ← vfill_set T j x hx, List.map_set]
  rwa [e] at h2
end Go.Proofs.Ytbecambkjmheiaa
/- A row that the call owns, kept where its block is; blocks behind the loop's record. Nothing of any function. -/
namespace Go.Proofs.Ytbecambkjmheiaa
open Go.RowKit Go.Shelf

theorem vown_kept {W W' : World} {base : Nat} {e : TypeId} {size : Nat} {v : Value} {n : Nat} {xs : List Value} (h : W.ownsRow base e size v n xs) (hk : ∀ k, v.ownBlock = some k → W'.heap[k]? = W.heap[k]?) : W'.ownsRow base e size v n xs := by
  refine ⟨h.1, ?_⟩
  rcases h.2 with h2 | ⟨g, cap, cur, hv, hg, hh, r⟩
  · exact Or.inl h2
  · exact Or.inr ⟨g, cap, cur, hv, hg, (hk g (by rw [hv]; rfl)).trans hh, r⟩
theorem vown_blk {W : World} {base : Nat} {e : TypeId} {size : Nat} {v : Value} {n : Nat} {xs : List Value} (h : W.ownsRow base e size v n xs) (k : Nat) (hk : v.ownBlock = some k) : base ≤ k ∧ ∃ cs, Blk W k e cs := by
  rcases h.2 with ⟨h2, _⟩ | ⟨g, cap, cur, hv, hg, hh, r⟩
  · rw [h2] at hk; cases hk
  · rw [hv] at hk
    cases hk
    exact ⟨hg, cur, hh⟩
theorem vown_ne {w : World} {g : Nat} {t : TypeId} {cs : Array Value} {base : Nat} {e : TypeId} {size n : Nat} {v : Value} {xs : List Value} (h : w.ownsRow base e size v n xs) (hg : Blk w g t cs) (hne : e ≠ t) : v.ownBlock ≠ some g := by
  intro he
  obtain ⟨_, cs2, hb⟩ := vown_blk h g he
  have h9 : some (Obj.cells cs t (0, 0)) = some (Obj.cells cs2 e (0, 0)) := (show w.heap[g]? = _ from hg).symm.trans hb
  injection h9 with h9
  injection h9 with _ h9
  exact hne h9.symm
theorem vkeeps_grown {B : Nat} {W W' : World} {row : Option Nat} (h : W.grownBy W' row) (hr : ∀ k, row = some k → ∃ t cs, Blk W k t cs) : KeepsFrom B W W' :=
  (show KeepsOthers W W' from ⟨h.size, fun k o hk hc => (h.block k (Array.getElem?_eq_some_iff.1 hk).1 (fun e => by
    obtain ⟨t, cs, hb⟩ := hr k e.symm
    rw [show W.heap[k]? = _ from hb] at hk
    cases hk
    cases hc)).trans hk⟩).from _
theorem vblk_putObj {W : World} {g D : Nat} {t : TypeId} {cs : Array Value} {o o' : Obj} (hb : Blk W g t cs) (hD : W.heap[D]? = some o) (ho : o.isCells = false) : Blk (W.putObj D o') g t cs :=
  (World.putObj_heap_other (fun e => by
    subst e
    rw [show W.heap[g]? = _ from hb] at hD
    cases hD
    cases ho)).trans hb

end Go.Proofs.Ytbecambkjmheiaa
