/- The contracts of the reference's Start, Keys and Same. -/
import Derived.Test.YtdnndmdjnjhpaaaHRound
import Derived.Test.YtdnndmdjnjhpaaaHMix
namespace Go.Proofs.Ytdnndmdjnjhpaaa
open Go.RowKit

/-- A row of words: where it lies, if it has any. -/
def WR (w : World) (A : Option Addr) (L : List Nat) : Prop :=
  ∀ j, j < L.length → ∃ g off, A = some ⟨g, off, none⟩ ∧ w.cell? ⟨g, off + j, none⟩ = some (wv (wn L j))
theorem WR.later {w w' : World} {A : Option Addr} {L : List Nat} (h : WR w A L) (hb : Below w.heap.size w w') : WR w' A L := fun j hj => by
  obtain ⟨g, off, e, h0⟩ := h j hj
  exact ⟨g, off, e, cell_later hb h0⟩
theorem wn_get (L : List Nat) (j : Nat) (h : j < L.length) : wn L j = L[j] := by simp [wn, List.getD, h]
theorem WR.blk {w : World} {g : Nat} {t : TypeId} {L : List Nat} (h : Blk w g t (L.map wv).toArray) : WR w (some ⟨g, 0, none⟩) L := fun j hj => ⟨g, 0, rfl, by
  rw [Nat.zero_add, h.cell j, wn_get L j hj]
  simp [hj]⟩

set_option maxRecDepth 100000 in
set_option maxHeartbeats 1000000 in
theorem rkeys_any (w : World) : Calls Try.prog 12 #[] w fun e w' => ∃ g, e = .returned (.slice (some ⟨g, 0, none⟩) 64 64) ∧ w.heap.size ≤ g ∧ Blk w' g 25 (keysL.map wv).toArray ∧ Below w.heap.size w w' := by
  go_enter Try.func12, Try.ntmps12
  go_wp2
  go_ret
  exact ⟨_, rfl, Nat.le_refl _, Blk.new w _ _, ba (Below.refl _ _) _⟩
set_option maxRecDepth 100000 in
set_option maxHeartbeats 1000000 in
theorem rstart_any (w : World) : Calls Try.prog 11 #[] w fun e w' => ∃ g, e = .returned (.slice (some ⟨g, 0, none⟩) 8 8) ∧ w.heap.size ≤ g ∧ Blk w' g 25 (startL.map wv).toArray ∧ Below w.heap.size w w' := by
  go_enter Try.func11, Try.ntmps11
  go_wp2
  go_ret
  exact ⟨_, rfl, Nat.le_refl _, Blk.new w _ _, ba (Below.refl _ _) _⟩

theorem bdn' {B : Nat} {a w : World} (h : Below B a w) (n : Nat) : Below B a (w.drewN n) := ⟨h.os, h.tape, h.output, h.size, h.block⟩
set_option maxRecDepth 100000 in
set_option maxHeartbeats 2000000 in
theorem rsame_any (A B : Option Addr) (c d n : Nat) (L : List Nat) (w : World) (hA : WR w A L) (hB : WR w B L) (hl : L.length = n) (h64 : n ≤ 64) :
    Calls Try.prog 15 #[.slice A n c, .slice B n d] w fun e w' => e = .returned (.bool true) ∧ Below w.heap.size w w' := by
  have HA := Lib.hid hA
  have HB := Lib.hid hB
  have HL := Lib.hid hl
  clear hA hB hl
  go_enter Try.func15, Try.ntmps15
  go_wp2_with fail
  go_loopw [13] (fun iv wr => ∃ k : Nat, k ≤ n ∧ iv = .int .i64 k ∧ Below w.heap.size w wr) (fun i _ => n - (intOf i).toNat)
  case atStart => exact ⟨0, Nat.zero_le _, rfl, Below.refl _ _⟩
  case round =>
    obtain ⟨k, hk, rfl, hb⟩ := hrel
    by_cases hlt : k < n
    · obtain ⟨g, off, rfl, c0⟩ := (HA.out.later hb) k (by rw [HL.out]; exact hlt)
      obtain ⟨g', off', rfl, d0⟩ := (HB.out.later hb) k (by rw [HL.out]; exact hlt)
      have i0 : (0 : Int) ≤ (k : Int) := by omega
      have i1 : (k : Int) < (n : Int) := by omega
      obtain ⟨x, hx⟩ : ∃ x, wn L k = x := ⟨_, rfl⟩
      rw [hx] at c0 d0
      clear hx
      go_wp2_with fail
      go_quiet (fail)
      go_wp2
      exact ⟨⟨k + 1, by omega, by go_num, bdn' hb _⟩, by simp [intOf]; omega⟩
    · obtain rfl : k = n := by omega
      go_wp2
      go_ret
      exact ⟨rfl, hb⟩
end Go.Proofs.Ytdnndmdjnjhpaaa
