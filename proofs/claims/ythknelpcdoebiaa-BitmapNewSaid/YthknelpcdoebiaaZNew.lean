/- The contracts of New. -/
import Derived.Test.YthknelpcdoebiaaZFun
import Derived.Test.YthknelpcdoebiaaZOwn
import Derived.Laws.MakeOwn
namespace Go.Proofs.Ythknelpcdoebiaa
open Go.RowKit

theorem zmake_words (n : Nat) (hn : n ≤ 65536) (W : World) : (Instr.makeSlice 22 (.int .i64 (n : Int)) (.int .i64 (n : Int))).run Try.prog W = .ok (.slice (some ⟨W.heap.size, 0, none⟩) n n) (W.alloc (.cells (Array.replicate n (zq 0)) 23)) := by
  obtain ⟨i0, hi, hz0, hz1, hz2⟩ := info_parts infoZ
  have h := run_makeSlice (P := Try.prog) (w := W) 22 23 i0 (.int .u64 0) Try.underlying22 hi hz0 .i64 .i64 n n (by omega) (by omega) (by rw [hz1]; omega) (by rw [hz2]; omega) (by omega)
  rw [hz1] at h
  have e : madeCells (Value.int .u64 0).cells ((n : Int).toNat * 1) = (Array.replicate n (zq 0)) := by
    simp [madeCells, Value.cells]
    apply Array.ext
    · simp
    · intro i h1 h2
      simp [Nat.mod_one]
  rw [e] at h
  exact h
theorem znew_cells {n : Nat} (hn : 1 ≤ n) : (Array.replicate (zW n) (zq 0)).setIfInBounds (zW n - 1) (zq (zno n)) = ((znew n).map zq).toArray := by
  rw [znew_list hn, List.map_set, List.map_replicate]
  apply Array.toList_inj.1
  rw [Array.toList_setIfInBounds, Array.toList_replicate]

set_option maxRecDepth 100000 in
set_option maxHeartbeats 2000000 in
theorem bnew_no (k : Int) (w : World) (h : ¬ (1 ≤ k ∧ k ≤ 4096)) :
    Calls Try.prog 8 #[.int .i64 k] w fun e w' => e = .returned (.tuple #[zbv 0 none 0 0 0, .int .i64 4]) ∧ Below w.heap.size w w' := by
  have hc0 : (decide (1 ≤ k) && decide (k ≤ 4096)) = false := by
    rw [Bool.and_eq_false_iff]
    simp only [decide_eq_false_iff_not]
    omega
  have HC := Lib.hid (fun w => isCount_any k w)
  rw [hc0] at HC
  clear h hc0
  have KK := Blk.new w 25 #[.int .i64 0, .slice none 0 0, .int .u64 0]
  go_enter Try.func8, Try.ntmps8
  go_wp2_with fail
  refine (HC.out _).mono ?_
  rintro e w1 ⟨rfl, rfl⟩
  go_wp2
  refine bodyPost_ret (map_result rfl KK) rfl ?_
  exact ⟨rfl, ba (Below.refl _ _) _⟩

set_option maxRecDepth 100000 in
set_option maxHeartbeats 2000000 in
theorem bnew_walk (k m p z : Nat) (w : World)
    (HC : Hid (∀ w, Calls Try.prog 23 #[.int .i64 (k : Int)] w fun e w' => e = .returned (.bool true) ∧ w = w'))
    (HW : Hid (∀ w, Calls Try.prog 24 #[.int .i64 (k : Int)] w fun e w' => e = .returned (.int .i64 (m : Int)) ∧ w = w'))
    (HN : Hid (∀ w, Calls Try.prog 25 #[.int .i64 (k : Int)] w fun e w' => e = .returned (zq z) ∧ w = w'))
    (hm : m ≤ 64) (hp : (m : Int) - 1 = (p : Int)) :
    Calls Try.prog 8 #[.int .i64 (k : Int)] w fun e w' => ∃ g, e = .returned (.tuple #[zbv (k : Int) (some ⟨g, 0, none⟩) m m 0, .int .i64 0]) ∧ Blk w' g 23 ((Array.replicate m (zq 0)).setIfInBounds p (zq z)) ∧ Below w.heap.size w w' := by
  have e1 := zmake_words m (by omega)
  have p0 : (0 : Int) ≤ (p : Int) := by omega
  have p1 : (p : Int) < (m : Int) := by omega
  have hw : IntKind.i64.wrap (p : Int) = (p : Int) := by rw [IntKind.wrap_i64]; omega
  have HZ := Lib.hid (show p < m by omega)
  go_enter Try.func8, Try.ntmps8
  go_wp2_with fail
  refine (HC.out _).mono ?_
  rintro e w1 ⟨rfl, rfl⟩
  go_wp2_with fail
  refine (HW.out _).mono ?_
  rintro e w1 ⟨rfl, rfl⟩
  go_wp2_with fail
  refine (HN.out _).mono ?_
  rintro e w1 ⟨rfl, rfl⟩
  have HB : Below w.heap.size w ((w.alloc (.cells #[.int .i64 0, .slice none 0 0, .int .u64 0] 25)).alloc (.cells (Array.replicate m (zq 0)) 23)) := ba (ba (Below.refl _ _) _) _
  have HO : Blk ((w.alloc (.cells #[.int .i64 0, .slice none 0 0, .int .u64 0] 25)).alloc (.cells (Array.replicate m (zq 0)) 23)) w.heap.size 25 #[.int .i64 0, .slice none 0 0, .int .u64 0] := (Blk.new w _ _).alloc _
  have HR : Blk ((w.alloc (.cells #[.int .i64 0, .slice none 0 0, .int .u64 0] 25)).alloc (.cells (Array.replicate m (zq 0)) 23)) (w.heap.size + 1) 23 (Array.replicate m (zq 0)) := Blk.newAt (by simp) _ _
  have HG : w.heap.size + 1 < ((w.alloc (.cells #[.int .i64 0, .slice none 0 0, .int .u64 0] 25)).alloc (.cells (Array.replicate m (zq 0)) 23)).heap.size := by simp
  generalize (w.alloc (.cells #[.int .i64 0, .slice none 0 0, .int .u64 0] 25)).alloc (.cells (Array.replicate m (zq 0)) 23) = w2 at HB HO HR HG ⊢
  have r0 := HR.cell p
  rw [show (Array.replicate m (zq 0))[p]? = some (zq 0) by simp [HZ.out]] at r0
  have r1 := HR.frozen p
  have B4 := Lib.hid (bs HB (b := w.heap.size + 1) (o := p) (by omega) (zq z))
  have O4 := Lib.hid (HO.far (p := ⟨w.heap.size + 1, p, none⟩) (by simp) (zq z))
  have R4 := Lib.hid (HR.set_ p (zq z))
  obtain ⟨⟨o0, o1, o2⟩, f0, f1, f2⟩ := zcells HO
  clear HB HO HR e1
  go_wp2
  refine bodyPost_ret (map_result rfl (((O4.out.set_ 0 _).set_ 1 _).set_ 2 _)) rfl ?_
  refine ⟨_, rfl, ((R4.out.far (by simp) _).far (by simp) _).far (by simp) _, bs (bs (bs B4.out (by omega) _) (by omega) _) (by omega) _⟩

theorem bnew_yes (k : Nat) (w : World) (h1 : 1 ≤ k) (h2 : k ≤ 4096) :
    Calls Try.prog 8 #[.int .i64 (k : Int)] w fun e w' => ∃ A, e = .returned (.tuple #[zbv (k : Int) A (zW k) (zW k) 0, .int .i64 0]) ∧ ZM w' A (zW k) (zW k) (znew k) 0 ∧ Below w.heap.size w w' := by
  have hc0 : (decide (1 ≤ (k : Int)) && decide ((k : Int) ≤ 4096)) = true := by simp; omega
  have HC := Lib.hid (fun w => isCount_any (k : Int) w)
  rw [hc0] at HC
  have hz : 1 ≤ zW k ∧ zW k ≤ 64 := by unfold zW; omega
  refine (bnew_walk k (zW k) (zW k - 1) (zno k) w HC (Lib.hid fun w => wordsOf_any k h2 w) (Lib.hid fun w => noPlaces_any k h1 h2 w) hz.2 (by omega)).mono ?_
  rintro e w' ⟨g, rfl, hR, hb⟩
  rw [znew_cells h1] at hR
  exact ⟨_, rfl, ⟨blk_ZRow hR, znew_len k, (fun e => by cases e), by omega, Nat.le_refl _, znew_lt k, by decide⟩, hb⟩
end Go.Proofs.Ythknelpcdoebiaa
