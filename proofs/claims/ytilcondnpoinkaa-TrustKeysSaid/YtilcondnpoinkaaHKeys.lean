/- The contracts of the reference's Start and Keys. -/
import Derived.Test.YtilcondnpoinkaaHRound
import Derived.Test.YtilcondnpoinkaaHMix
namespace Go.Proofs.Ytilcondnpoinkaa
open Go.RowKit

/-- A row of words: where it lies, if it has any. -/
def WR (w : World) (A : Option Addr) (L : List Nat) : Prop :=
  ∀ j, j < L.length → ∃ g off, A = some ⟨g, off, none⟩ ∧ w.cell? ⟨g, off + j, none⟩ = some (wv (wn L j))
theorem WR.later {w w' : World} {A : Option Addr} {L : List Nat} (h : WR w A L) (hb : Below w.heap.size w w') : WR w' A L := fun j hj => by
  obtain ⟨g, off, e, h0⟩ := h j hj
  exact ⟨g, off, e, cell_later hb h0⟩
theorem wn_get (L : List Nat) (j : Nat) (h : j < L.length) : wn L j = L[j] := by simp [wn, List.getD, h]
theorem WR.blk {w : World} {g : Nat} {t : TypeId} {L : List Nat} (h : Blk w g t (L.map wv).toArray) : WR w (some ⟨g, 0, none⟩) L := fun j hj => ⟨g, 0, rfl, by
  rw [Nat.zero_add, h.cell j, wn_get L j hj]
  simp [hj]⟩

set_option maxRecDepth 100000 in
set_option maxHeartbeats 1000000 in
theorem rkeys_any (w : World) : Calls Try.prog 52 #[] w fun e w' => ∃ g, e = .returned (.slice (some ⟨g, 0, none⟩) 64 64) ∧ w.heap.size ≤ g ∧ Blk w' g 66 (keysL.map wv).toArray ∧ Below w.heap.size w w' := by
  go_enter Try.func52, Try.ntmps52
  go_wp2
  go_ret
  exact ⟨_, rfl, Nat.le_refl _, Blk.new w _ _, ba (Below.refl _ _) _⟩
set_option maxRecDepth 100000 in
set_option maxHeartbeats 1000000 in
theorem rstart_any (w : World) : Calls Try.prog 40 #[] w fun e w' => ∃ g, e = .returned (.slice (some ⟨g, 0, none⟩) 8 8) ∧ w.heap.size ≤ g ∧ Blk w' g 66 (startL.map wv).toArray ∧ Below w.heap.size w w' := by
  go_enter Try.func40, Try.ntmps40
  go_wp2
  go_ret
  exact ⟨_, rfl, Nat.le_refl _, Blk.new w _ _, ba (Below.refl _ _) _⟩

theorem bdn' {B : Nat} {a w : World} (h : Below B a w) (n : Nat) : Below B a (w.drewN n) := ⟨h.os, h.tape, h.output, h.size, h.block⟩
end Go.Proofs.Ytilcondnpoinkaa
