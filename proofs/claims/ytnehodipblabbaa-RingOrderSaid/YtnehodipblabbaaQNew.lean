/- The contracts of New. -/
import Derived.Test.YtnehodipblabbaaQSlot
import Derived.Laws.MakeOwn
namespace Go.Proofs.Ytnehodipblabbaa
open Go.RowKit

theorem qmake_strs (n : Nat) (hn : n ≤ 65536) (W : World) : (Instr.makeSlice 22 (.int .i64 (n : Int)) (.int .i64 (n : Int))).run Try.prog W = .ok (.slice (some ⟨W.heap.size, 0, none⟩) n n) (W.alloc (.cells (Array.replicate n (sv [])) 9)) := by
  obtain ⟨i0, hi, hz0, hz1, hz2⟩ := info_parts infoS
  have h := run_makeSlice (P := Try.prog) (w := W) 22 9 i0 (.string ⟨#[]⟩) Try.underlying22 hi hz0 .i64 .i64 n n (by omega) (by omega) (by rw [hz1]; omega) (by rw [hz2]; omega) (by omega)
  rw [hz1] at h
  have e : madeCells (Value.string ⟨#[]⟩).cells ((n : Int).toNat * 1) = Array.replicate n (sv []) := by
    simp [madeCells, Value.cells]
    apply Array.ext
    · simp
    · intro i h1 h2
      simp [Nat.mod_one]
  rw [e] at h
  exact h
theorem qmade_qm {W : World} {g n : Nat} (h : Blk W g 9 (Array.replicate n (sv []))) (hn : n ≤ 70) : QM W (some ⟨g, 0, none⟩) n n (List.replicate n []) :=
  ⟨blk_SR (by rw [List.map_replicate, List.toArray_replicate]; exact h), by simp, (fun e => by cases e), hn, Nat.le_refl _⟩

theorem QM.far {W : World} {A : Option Addr} {n c : Nat} {L : List (List UInt8)} (h : QM W A n c L) {p : Addr} (hp : ∀ a, A = some a → a.block ≠ p.block) (u : Value) : QM (W.setCell p u) A n c L := by
  refine ⟨fun j hj => ?_, h.len, h.nil, h.few, h.cap⟩
  obtain ⟨g, off, e, h0⟩ := h.row j hj
  refine ⟨g, off, e, ?_⟩
  exact (World.cell?_of_block (a := ⟨g, off + j, Option.none⟩) (Below.heap_setCell W p u g (hp _ e))).trans h0
theorem qoff {g b : Nat} (h : g ≠ b) : ∀ a : Addr, some (⟨g, 0, none⟩ : Addr) = some a → a.block ≠ b := fun a e => by cases e; exact h

set_option maxRecDepth 100000 in
set_option maxHeartbeats 2000000 in
theorem qnew_no (k : Int) (w : World) (h : ¬ (1 ≤ k ∧ k ≤ 64)) :
    Calls Try.prog 7 #[.int .i64 k] w fun e w' => e = .returned (.tuple #[qv none 0 0 0 0, .int .i64 4]) ∧ Below w.heap.size w w' := by
  have hc0 : (decide (1 ≤ k) && decide (k ≤ 64)) = false := by
    rw [Bool.and_eq_false_iff]
    simp only [decide_eq_false_iff_not]
    omega
  have HC := Lib.hid (fun w => qcount_any k w)
  rw [hc0] at HC
  clear h hc0
  have KK := Blk.new w 24 #[.slice none 0 0, .int .i64 0, .int .i64 0]
  go_enter Try.func7, Try.ntmps7
  go_wp2_with fail
  refine (HC.out _).mono ?_
  rintro e w1 ⟨rfl, rfl⟩
  go_wp2
  refine bodyPost_ret (ring_result rfl KK) rfl ?_
  exact ⟨rfl, ba (Below.refl _ _) _⟩

set_option maxRecDepth 100000 in
set_option maxHeartbeats 2000000 in
theorem qnew_yes (k : Nat) (w : World) (h1 : 1 ≤ k) (h2 : k ≤ 64) :
    Calls Try.prog 7 #[.int .i64 (k : Int)] w fun e w' => ∃ A, e = .returned (.tuple #[qv A k k 0 0, .int .i64 0]) ∧ QM w' A k k (List.replicate k []) ∧ Below w.heap.size w w' := by
  have hc0 : (decide (1 ≤ (k : Int)) && decide ((k : Int) ≤ 64)) = true := by simp; omega
  have HC := Lib.hid (fun w => qcount_any (k : Int) w)
  rw [hc0] at HC
  have e1 := qmake_strs k (by omega)
  have hk := h2
  clear hc0 h1
  go_enter Try.func7, Try.ntmps7
  go_wp2_with fail
  refine (HC.out _).mono ?_
  rintro e w1 ⟨rfl, rfl⟩
  go_wp2
  refine bodyPost_ret (ring_result rfl ((Blk.new _ _ _).alloc _)) rfl ?_
  exact ⟨_, rfl, qmade_qm (Blk.newAt (by simp) _ _) (by omega), ba (ba (Below.refl _ _) _) _⟩
end Go.Proofs.Ytnehodipblabbaa
