/- The contracts of few, New and alive. -/
import Derived.Test.YtiibgbdhbamajaaDRead
import Derived.Test.YtiibgbdhbamajaaDWrite
import Derived.Test.YtiibgbdhbamajaaDSame
import Derived.Test.YtiibgbdhbamajaaDEq
import Derived.StillTailTactics
namespace Go.Proofs.Ytiibgbdhbamajaa
open Go.RowKit

theorem cutS_run (A : Option Addr) (len cap m : Nat) (hm : m ≤ cap) (W : World) : (Instr.slice 22 (.slice A len cap) none (some (.int .i64 (m : Int))) none).run Try.prog W = .ok (.slice A m cap) W := by
  obtain ⟨i, hi⟩ : ∃ i, Try.prog.info? 9 = some i := Option.isSome_iff_exists.1 (by kernel_rfl)
  have hb : (Instr.sliceBounds true len cap none (some (.int .i64 (m : Int))) none).run Try.prog W = .ok (0, m, cap) W := by
    have h1 : (0 : Int) ≤ (m : Int) ∧ (m : Int) ≤ (cap : Int) := by omega
    simp [Instr.sliceBounds, Instr.sliceBound, asIntOf, h1]
    omega
  have hA : (if cap = 0 then A else A.map fun x => x.add (0 * i.size)) = A := by
    split
    · rfl
    · cases A <;> simp [Addr.add]
  simp [Instr.slice, run_underlying (P := Try.prog) (w := W) Try.underlying22, hb, sizeOf, typeInfo, hi]
  simpa using hA
theorem cutP_run (A : Option Addr) (len cap m : Nat) (hm : m ≤ cap) (W : World) : (Instr.slice 23 (.slice A len cap) none (some (.int .i64 (m : Int))) none).run Try.prog W = .ok (.slice A m cap) W := by
  obtain ⟨i, hi⟩ : ∃ i, Try.prog.info? 47 = some i := Option.isSome_iff_exists.1 (by kernel_rfl)
  have hb : (Instr.sliceBounds true len cap none (some (.int .i64 (m : Int))) none).run Try.prog W = .ok (0, m, cap) W := by
    have h1 : (0 : Int) ≤ (m : Int) ∧ (m : Int) ≤ (cap : Int) := by omega
    simp [Instr.sliceBounds, Instr.sliceBound, asIntOf, h1]
    omega
  have hA : (if cap = 0 then A else A.map fun x => x.add (0 * i.size)) = A := by
    split
    · rfl
    · cases A <;> simp [Addr.add]
  simp [Instr.slice, run_underlying (P := Try.prog) (w := W) Try.underlying23, hb, sizeOf, typeInfo, hi]
  simpa using hA

/-- What a device is handed back as. -/
theorem dev1_result {fn : Func} {p : Tmp} {tmps : Array Value} {W : World} {g : Nat} {x y : Value} (h : fn.results = #[.cell p 25]) (hb : Blk W g 25 #[x, y]) (hp : tmps.getD p undef = .pointer (some ⟨g, 0, none⟩) := by rfl) :
    (results fn tmps).run Try.prog W = .ok (.agg #[x, y]) W := by
  obtain ⟨q0, q1, _, _⟩ := dcells hb
  simp only [Array.getD_eq_getD_getElem?] at hp
  simp [results, h, go_sem, hp, q0, q1]

set_option maxRecDepth 100000 in
set_option maxHeartbeats 2000000 in
theorem few_any (A B : Option Addr) (c d n m : Nat) (w : World) (hn : n ≤ c) (hm : m ≤ d) :
    Calls Try.prog 7 #[dv A n c B m d] w fun e w' => e = .returned (dv A (min n 70) c B (min m 65) d) ∧ Below w.heap.size w w' := by
  obtain ⟨n2, hn2⟩ : ∃ x, min n 70 = x := ⟨_, rfl⟩
  obtain ⟨m2, hm2⟩ : ∃ x, min m 65 = x := ⟨_, rfl⟩
  have h1 : (if 70 < (n : Int) then 70 else (n : Int)) = (n2 : Int) := by split <;> omega
  have h2 : (if 65 < (m : Int) then 65 else (m : Int)) = (m2 : Int) := by split <;> omega
  have e1 := cutS_run A n c n2 (by omega)
  have e2 := cutP_run B m d m2 (by omega)
  rw [hn2, hm2]
  have hB0 : Below w.heap.size w ((w.alloc (.cells #[.slice A n c, .slice B m d] 25)).alloc (.cells #[.slice none 0 0, .slice none 0 0] 25)) := ba (ba (Below.refl _ _) _) _
  have k1 : Blk ((w.alloc (.cells #[.slice A n c, .slice B m d] 25)).alloc (.cells #[.slice none 0 0, .slice none 0 0] 25)) (w.heap.size + 1) 25 #[.slice none 0 0, .slice none 0 0] := Blk.newAt (by simp) _ _
  clear hn2 hm2 hn hm
  go_enter Try.func7, Try.ntmps7
  go_wp2_with fail
  have k0 : Blk ((w.alloc (.cells #[.slice A n c, .slice B m d] 25)).alloc (.cells #[.slice none 0 0, .slice none 0 0] 25)) w.heap.size 25 #[.slice A n c, .slice B m d] := Blk.alloc (Blk.new w _ _) _
  have c0 : ((w.alloc (.cells #[.slice A n c, .slice B m d] 25)).alloc (.cells #[.slice none 0 0, .slice none 0 0] 25)).cell? ⟨w.heap.size, 0, none⟩ = some (.slice A n c) := (Blk.alloc (Blk.new w _ _) _).cell 0
  have c1 : ((w.alloc (.cells #[.slice A n c, .slice B m d] 25)).alloc (.cells #[.slice none 0 0, .slice none 0 0] 25)).cell? ⟨w.heap.size, 1, none⟩ = some (.slice B m d) := (Blk.alloc (Blk.new w _ _) _).cell 1
  generalize (w.alloc (.cells #[.slice A n c, .slice B m d] 25)).alloc (.cells #[.slice none 0 0, .slice none 0 0] 25) = w2 at *
  have H1 := Lib.hid h1
  have H2 := Lib.hid h2
  have E1 := Lib.hid e1
  have E2 := Lib.hid e2
  have FR := Lib.hid (dcells k1)
  have K0 := Lib.hid k0
  have K1 := Lib.hid k1
  have HB0 := Lib.hid hB0
  clear h1 h2 e1 e2 k0 k1 hB0
  refine wp_region_held_drew (S := fun W => W.cell? ⟨w.heap.size, 0, none⟩ = some (.slice A n c) ∧ W.cell? ⟨w.heap.size, 1, none⟩ = some (.slice B m d)) (by kernel_rfl) ⟨c0, c1⟩ (fun hHeld => ?_)
  refine wpAnyH_take (i := 0) (oi := ⟨some 3, _, _, _, _, _⟩) (v := .pointer (some ⟨w.heap.size, 0, none⟩)) rfl (by kernel_rfl) (by kernel_rfl) (by kernel_rfl) (fun _ _ _ h => h) (Or.inl ⟨by rfl, ?_⟩) (by assumption) ?_
  · (intro w9 hSw; (try dsimp only at hSw); go_simp)
  try simp only [Act.put, List.setIfInBounds_toArray, List.set_cons_zero, List.set_cons_succ]
  refine wpAnyH_take (i := 1) (oi := ⟨some 4, _, _, _, _, _⟩) (v := .slice A n c) rfl (by kernel_rfl) (by kernel_rfl) (by kernel_rfl) (fun _ _ _ h => h) (Or.inl ⟨by rfl, ?_⟩) (by assumption) ?_
  · (intro w9 hSw; obtain ⟨s0, s1⟩ := hSw; (try dsimp only at hSw); go_simp)
  try simp only [Act.put, List.setIfInBounds_toArray, List.set_cons_zero, List.set_cons_succ]
  refine wpAnyH_take (i := 2) (oi := ⟨some 5, _, _, _, _, _⟩) (v := .pointer (some ⟨w.heap.size, 0, none⟩)) rfl (by kernel_rfl) (by kernel_rfl) (by kernel_rfl) (fun _ _ _ h => h) (Or.inl ⟨by rfl, ?_⟩) (by assumption) ?_
  · (intro w9 hSw; (try dsimp only at hSw); go_simp)
  try simp only [Act.put, List.setIfInBounds_toArray, List.set_cons_zero, List.set_cons_succ]
  refine wpAnyH_take (i := 3) (oi := ⟨some 6, _, _, _, _, _⟩) (v := .slice A n c) rfl (by kernel_rfl) (by kernel_rfl) (by kernel_rfl) (fun _ _ _ h => h) (Or.inl ⟨by rfl, ?_⟩) (by assumption) ?_
  · (intro w9 hSw; obtain ⟨s0, s1⟩ := hSw; (try dsimp only at hSw); go_simp)
  try simp only [Act.put, List.setIfInBounds_toArray, List.set_cons_zero, List.set_cons_succ]
  refine wpAnyH_take (i := 4) (oi := ⟨some 7, _, _, _, _, _⟩) (v := .int .i64 (n : Int)) rfl (by kernel_rfl) (by kernel_rfl) (by kernel_rfl) (fun _ _ _ h => h) (Or.inl ⟨by rfl, ?_⟩) (by assumption) ?_
  · (intro w9 hSw; (try dsimp only at hSw); go_simp)
  try simp only [Act.put, List.setIfInBounds_toArray, List.set_cons_zero, List.set_cons_succ]
  refine wpAnyH_take (i := 5) (oi := ⟨some 8, _, _, _, _, _⟩) (v := .int .i64 (n2 : Int)) rfl (by kernel_rfl) (by kernel_rfl) (by kernel_rfl) (fun _ _ _ h => h) (Or.inl ⟨by rfl, ?_⟩) (by assumption) ?_
  · (intro w9 hSw; have f1 := H1.out; (try dsimp only at hSw); go_simp)
  try simp only [Act.put, List.setIfInBounds_toArray, List.set_cons_zero, List.set_cons_succ]
  refine wpAnyH_take (i := 6) (oi := ⟨some 9, _, _, _, _, _⟩) (v := .slice A n2 c) rfl (by kernel_rfl) (by kernel_rfl) (by kernel_rfl) (fun _ _ _ h => h) (Or.inl ⟨by rfl, ?_⟩) (by assumption) ?_
  · (intro w9 hSw; have f1 := E1.out w9; (try dsimp only at hSw); go_simp)
  try simp only [Act.put, List.setIfInBounds_toArray, List.set_cons_zero, List.set_cons_succ]
  refine wpAnyH_take (i := 7) (oi := ⟨some 10, _, _, _, _, _⟩) (v := .pointer (some ⟨w.heap.size, 1, none⟩)) rfl (by kernel_rfl) (by kernel_rfl) (by kernel_rfl) (fun _ _ _ h => h) (Or.inl ⟨by rfl, ?_⟩) (by assumption) ?_
  · (intro w9 hSw; (try dsimp only at hSw); go_simp)
  try simp only [Act.put, List.setIfInBounds_toArray, List.set_cons_zero, List.set_cons_succ]
  refine wpAnyH_take (i := 8) (oi := ⟨some 11, _, _, _, _, _⟩) (v := .slice B m d) rfl (by kernel_rfl) (by kernel_rfl) (by kernel_rfl) (fun _ _ _ h => h) (Or.inl ⟨by rfl, ?_⟩) (by assumption) ?_
  · (intro w9 hSw; obtain ⟨s0, s1⟩ := hSw; (try dsimp only at hSw); go_simp)
  try simp only [Act.put, List.setIfInBounds_toArray, List.set_cons_zero, List.set_cons_succ]
  refine wpAnyH_take (i := 9) (oi := ⟨some 12, _, _, _, _, _⟩) (v := .pointer (some ⟨w.heap.size, 1, none⟩)) rfl (by kernel_rfl) (by kernel_rfl) (by kernel_rfl) (fun _ _ _ h => h) (Or.inl ⟨by rfl, ?_⟩) (by assumption) ?_
  · (intro w9 hSw; (try dsimp only at hSw); go_simp)
  try simp only [Act.put, List.setIfInBounds_toArray, List.set_cons_zero, List.set_cons_succ]
  refine wpAnyH_take (i := 10) (oi := ⟨some 13, _, _, _, _, _⟩) (v := .slice B m d) rfl (by kernel_rfl) (by kernel_rfl) (by kernel_rfl) (fun _ _ _ h => h) (Or.inl ⟨by rfl, ?_⟩) (by assumption) ?_
  · (intro w9 hSw; obtain ⟨s0, s1⟩ := hSw; (try dsimp only at hSw); go_simp)
  try simp only [Act.put, List.setIfInBounds_toArray, List.set_cons_zero, List.set_cons_succ]
  refine wpAnyH_take (i := 11) (oi := ⟨some 14, _, _, _, _, _⟩) (v := .int .i64 (m : Int)) rfl (by kernel_rfl) (by kernel_rfl) (by kernel_rfl) (fun _ _ _ h => h) (Or.inl ⟨by rfl, ?_⟩) (by assumption) ?_
  · (intro w9 hSw; (try dsimp only at hSw); go_simp)
  try simp only [Act.put, List.setIfInBounds_toArray, List.set_cons_zero, List.set_cons_succ]
  refine wpAnyH_take (i := 12) (oi := ⟨some 15, _, _, _, _, _⟩) (v := .int .i64 (m2 : Int)) rfl (by kernel_rfl) (by kernel_rfl) (by kernel_rfl) (fun _ _ _ h => h) (Or.inl ⟨by rfl, ?_⟩) (by assumption) ?_
  · (intro w9 hSw; have f1 := H2.out; (try dsimp only at hSw); go_simp)
  try simp only [Act.put, List.setIfInBounds_toArray, List.set_cons_zero, List.set_cons_succ]
  refine wpAnyH_take (i := 13) (oi := ⟨some 16, _, _, _, _, _⟩) (v := .slice B m2 d) rfl (by kernel_rfl) (by kernel_rfl) (by kernel_rfl) (fun _ _ _ h => h) (Or.inl ⟨by rfl, ?_⟩) (by assumption) ?_
  · (intro w9 hSw; have f1 := E2.out w9; (try dsimp only at hSw); go_simp)
  try simp only [Act.put, List.setIfInBounds_toArray, List.set_cons_zero, List.set_cons_succ]
  refine wpAnyH_take (i := 14) (oi := ⟨some 17, _, _, _, _, _⟩) (v := .agg #[.slice A n2 c, .slice B m2 d]) rfl (by kernel_rfl) (by kernel_rfl) (by kernel_rfl) (fun _ _ _ h => h) (Or.inl ⟨by rfl, ?_⟩) (by assumption) ?_
  · (intro w9 hSw; (try dsimp only at hSw); go_simp)
  try simp only [Act.put, List.setIfInBounds_toArray, List.set_cons_zero, List.set_cons_succ]
  refine wpAnyH_ready (rs := [15]) (by kernel_rfl) (by simp) ?_
  refine AllReadyH.cons (o := ⟨none, _, _, _, _, _⟩) rfl (fun K9 hK9 => ?_) AllReadyH.nil
  have f0 := FR.out
  obtain ⟨f00, f01, f02, f03⟩ := f0; go_simp
  clear f00 f01 f02 f03
  refine hK9.out _ _ ?_ (fun hHeld => ?_)
  · exact ⟨((K0.out.far (by simp) _).far (by simp) _).cell 0, ((K0.out.far (by simp) _).far (by simp) _).cell 1⟩
  clear hK9 K9
  try simp only [Act.put]
  refine wpAnyH_done (by kernel_rfl) ?_ _
  go_wp2
  refine bodyPost_ret (dev1_result rfl ((K1.out.set_ 0 (.slice A n2 c)).set_ 1 (.slice B m2 d)).drew) rfl ?_
  exact ⟨rfl, (bs (bs HB0.out (by omega) _) (by omega) _).drew⟩

theorem make_full (n : Nat) (hn : n ≤ 65536) (W : World) : (Instr.makeSlice 22 (.int .i64 (n : Int)) (.int .i64 (n : Int))).run Try.prog W = .ok (.slice (some ⟨W.heap.size, 0, none⟩) n n) (W.alloc (.cells (Array.replicate n (sv [])) 9)) := by
  obtain ⟨i0, hi, hz0, hz1, hz2⟩ := info_parts infoS
  have h := run_makeSlice (P := Try.prog) (w := W) 22 9 i0 (.string ⟨#[]⟩) Try.underlying22 hi hz0 .i64 .i64 n n (by omega) (by omega) (by rw [hz1]; omega) (by rw [hz2]; omega) (by omega)
  rw [hz1] at h
  have e : madeCells (Value.string ⟨#[]⟩).cells ((n : Int).toNat * 1) = (Array.replicate n (sv [])) := by
    simp [madeCells, Value.cells]
    apply Array.ext
    · simp
    · intro i h1 h2
      simp [Nat.mod_one]
  rw [e] at h
  exact h

theorem SR.made {W : World} {g n : Nat} (h : Blk W g 9 (Array.replicate n (sv []))) : SR W (some ⟨g, 0, none⟩) (List.replicate n []) := fun j hj => ⟨g, 0, rfl, by
  rw [Nat.zero_add, h.cell j]
  simp at hj
  simp [hj, List.getD]⟩

set_option maxRecDepth 100000 in
set_option maxHeartbeats 2000000 in
theorem new_no (k : Int) (w : World) (h : ¬ (1 ≤ k ∧ k ≤ 64)) :
    Calls Try.prog 8 #[.int .i64 k] w fun e w' => e = .returned (.tuple #[dv none 0 0 none 0 0, .int .i64 4]) ∧ Below w.heap.size w w' := by
  have KK := Blk.new w 25 #[.slice none 0 0, .slice none 0 0]
  rcases (show k < 1 ∨ (1 ≤ k ∧ 64 < k) by omega) with h1 | ⟨h1, h2⟩
  all_goals
    clear h
    go_enter Try.func8, Try.ntmps8
    go_wp2
    refine bodyPost_ret (dev_result rfl KK) rfl ?_
    exact ⟨rfl, ba (Below.refl _ _) _⟩

set_option maxRecDepth 100000 in
set_option maxHeartbeats 2000000 in
theorem new_yes (k : Nat) (w : World) (h1 : 1 ≤ k) (h2 : k ≤ 64) :
    Calls Try.prog 8 #[.int .i64 (k : Int)] w fun e w' => ∃ g, e = .returned (.tuple #[dv (some ⟨g, 0, none⟩) k k none 0 0, .int .i64 0]) ∧ SR w' (some ⟨g, 0, none⟩) (List.replicate k []) ∧ Below w.heap.size w w' := by
  have e1 := make_full k (by omega)
  have i1 : ¬ (k : Int) < 1 := by omega
  have i2 : (k : Int) ≤ 64 := by omega
  go_enter Try.func8, Try.ntmps8
  go_wp2
  have KK := (Blk.new w 25 #[.slice (some ⟨w.heap.size + 1, 0, none⟩) k k, .slice none 0 0]).alloc (.cells (Array.replicate k (sv [])) 9)
  refine bodyPost_ret (dev_result rfl KK) rfl ?_
  exact ⟨_, rfl, SR.made (Blk.newAt (by simp) _ _), ba (ba (Below.refl _ _) _) _⟩

theorem alive_read : rightB [[], [120]] [(1, [97]), (1, [98])] = true ∧ readD [[], [120]] [(1, [97]), (1, [98])] 1 = [98] := by decide +kernel
set_option maxRecDepth 100000 in
set_option maxHeartbeats 2000000 in
theorem alive_any (w : World) : Calls Try.prog 13 #[] w fun e w' => e = .returned (.bool true) ∧ Below w.heap.size w w' := by
  have HR : Hid (∀ W, Blk W w.heap.size 9 #[sv [], sv [120]] → Blk W (w.heap.size + 1) 47 #[.int .i64 1, sv [97], .int .i64 1, sv [98]] → Calls Try.prog 15 #[dv (some ⟨w.heap.size, 0, none⟩) 2 2 (some ⟨w.heap.size + 1, 0, none⟩) 2 2, .int .i64 1] W fun e w' => e = .returned (.tuple #[sv [98], .int .i64 0]) ∧ Below W.heap.size W w') := Lib.hid (fun W h1 h2 => by
    have hS : SR W (some ⟨w.heap.size, 0, none⟩) [[], [120]] := fun j hj => ⟨w.heap.size, 0, rfl, by
      rw [Nat.zero_add, h1.cell j]
      rcases (show j = 0 ∨ j = 1 by simp at hj; omega) with rfl | rfl <;> rfl⟩
    have hP : PR W (some ⟨w.heap.size + 1, 0, none⟩) [(1, [97]), (1, [98])] := fun j hj => ⟨w.heap.size + 1, 0, rfl, by
      rw [Nat.zero_add, h2.cell (j * 2)]
      rcases (show j = 0 ∨ j = 1 by simp at hj; omega) with rfl | rfl <;> rfl, by
      rw [Nat.zero_add, h2.cell (j * 2 + 1)]
      rcases (show j = 0 ∨ j = 1 by simp at hj; omega) with rfl | rfl <;> rfl⟩
    have := read_yes _ _ 2 2 2 2 _ _ 1 W hS hP rfl rfl alive_read.1 (by omega)
    rw [alive_read.2] at this
    exact this)
  go_enter Try.func13, Try.ntmps13
  go_wp2_with fail
  refine (HR.out _ (((Blk.new w _ _).alloc _).alloc _) ((Blk.newAt (by simp) _ _).alloc _)).mono ?_
  rintro e w1 ⟨rfl, hb1⟩
  go_wp2_with fail
  go_ret
  exact ⟨rfl, bt (ba (ba (ba (Below.refl _ _) _) _) _) hb1⟩
end Go.Proofs.Ytiibgbdhbamajaa
