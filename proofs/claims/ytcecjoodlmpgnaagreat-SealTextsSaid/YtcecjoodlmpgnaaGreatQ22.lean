/- Texts of this seat, one behind the other: ARKeys, AREnc. -/
import Derived.Test.YtcecjoodlmpgnaaGreatQ18
import Derived.Test.YtcecjoodlmpgnaaGreatQ21
/- The contract of the reference's Keys. -/
namespace Go.Proofs.YtcecjoodlmpgnaaGreat
open Go.RowKit

theorem keyAt_cat (F : List UInt8) (k : Nat) : keyAt F k = colG F (4 * k) ++ colG F (4 * k + 1) ++ colG F (4 * k + 2) ++ colG F (4 * k + 3) := by
  have e0 : 4 * (4 * k) = 16 * k := by omega
  have e1 : 4 * (4 * k + 1) = 16 * k + 4 := by omega
  have e2 : 4 * (4 * k + 2) = 16 * k + 8 := by omega
  have e3 : 4 * (4 * k + 3) = 16 * k + 12 := by omega
  rw [colG_four, colG_four, colG_four, colG_four, e0, e1, e2, e3]
  rfl

set_option maxRecDepth 100000 in
set_option maxHeartbeats 4000000 in
theorem rKeys_any (key : List UInt8) (n : Nat) (w : World) (hk : key.length = 16 ∨ key.length = 32) (hn : key.length / 4 + 7 = n) :
    Calls Tryz.prog 74 #[.string ⟨key.toArray⟩] w fun e w' => ∃ g c, e = .returned (.slice (some ⟨g, 0, none⟩) n c) ∧ w'.ownsRow w.heap.size 9 1 (.slice (some ⟨g, 0, none⟩) n c) n ((keysL key).map sv) ∧ Below w.heap.size w w' := by
  obtain ⟨i0, hi, hz0, hz1, hz2⟩ := info_parts infoS
  have H1 := Lib.hid (rWords_any key (key.length / 4) (4 * n) w hk rfl (by omega))
  have HT := Lib.hid (keysL_take key)
  have HLL : Hid ((keysL key).length = n) := Lib.hid (by rw [keysL_len, hn])
  have HWL : Hid ((wordsL key).length = 4 * n) := Lib.hid (by rw [wordsL_len, hn])
  have HAT := Lib.hid (wordsL_at key)
  have HCT := Lib.hid (keyAt_cat (keysF key))
  have hn15 : n ≤ 15 := by omega
  rw [hn] at HT HAT
  obtain ⟨F, hF⟩ : ∃ F, keysF key = F := ⟨_, rfl⟩
  rw [hF] at HT HAT HCT
  obtain ⟨L, hL⟩ : ∃ L, keysL key = L := ⟨_, rfl⟩
  rw [hL] at HT HLL ⊢
  generalize wordsL key = D at H1 HWL HAT
  obtain ⟨m, hm⟩ : ∃ m, 4 * n = m := ⟨_, rfl⟩
  rw [hm] at H1 HWL HAT
  have HM := Lib.hid hm
  have hm60 : (m : Int) ≤ 60 := by omega
  clear hk hn hF hL hm
  go_enter Tryz.func74, Tryz.ntmps74
  go_wp2_with fail
  refine H1.out.mono ?_
  rintro e w1 ⟨gw, cw, rfl, hw, hb1⟩
  have HW1 := Lib.hid hw
  have HGL : Hid (gw < w1.heap.size) := Lib.hid (hw.lt _ rfl).2
  have HCL : Hid (∀ j, j < m → w1.cell? ⟨gw, j, none⟩ = some (sv (D.getD j []))) := Lib.hid (fun j hj => by rw [hw.cellAt j (by omega), svs_at _ _ (by rw [HWL.out]; omega)])
  have HO0 : Hid ((w1.alloc (.cells #[] 9)).ownsRow w1.heap.size 9 1 (.slice (some ⟨w1.heap.size, 0, none⟩) 0 0) 0 ((L.take 0).map sv)) := Lib.hid (own_nil (Blk.new w1 _ _) (Nat.le_refl _))
  have hb0 := ba (Below.refl w1.heap.size w1) (.cells #[] 9)
  have HB1 := Lib.hid hb1
  clear hw hb1 H1
  go_wp2_with fail
  go_loopw [4, 5] (fun ov iv wr => ∃ k g d : Nat, k ≤ n ∧ iv = .int .i64 ((4 * k : Nat) : Int) ∧ ov = .slice (some ⟨g, 0, none⟩) k d ∧ Hid (wr.ownsRow w1.heap.size 9 1 (.slice (some ⟨g, 0, none⟩) k d) k ((L.take k).map sv)) ∧ Below w1.heap.size w1 wr) (fun _ iv _ => m - (intOf iv).toNat)
  case atStart => exact ⟨0, _, _, Nat.zero_le _, rfl, rfl, HO0, hb0⟩
  case round =>
    clear HO0 hb0
    obtain ⟨k, g, d, hk, rfl, rfl, HO, hb⟩ := hrel
    by_cases hlt : k < n
    · have HTK := Lib.hid (HT.out k hlt)
      have hct := HCT.out k
      rw [← HAT.out _ (by have := HM.out; omega), ← HAT.out _ (by have := HM.out; omega), ← HAT.out _ (by have := HM.out; omega), ← HAT.out _ (by have := HM.out; omega)] at hct
      obtain ⟨i, hik⟩ : ∃ i, 4 * k = i := ⟨_, rfl⟩
      have him : i + 3 < m := by have := HM.out; omega
      have himi : (i : Int) < (m : Int) := by omega
      rw [hik] at hct ⊢
      have hc0 := HCL.out i (by omega)
      have hc1 := HCL.out (i + 1) (by omega)
      have hc2 := HCL.out (i + 2) (by omega)
      have hc3 := HCL.out (i + 3) (by omega)
      have hl0 : (D.getD i []).length = 4 := by rw [HAT.out _ (by omega)]; exact tab_len _ _
      have hl1 : (D.getD (i + 1) []).length = 4 := by rw [HAT.out _ (by omega)]; exact tab_len _ _
      have hl2 : (D.getD (i + 2) []).length = 4 := by rw [HAT.out _ (by omega)]; exact tab_len _ _
      have hl3 : (D.getD (i + 3) []).length = 4 := by rw [HAT.out _ (by omega)]; exact tab_len _ _
      generalize D.getD i [] = a0 at hct hc0 hl0
      generalize D.getD (i + 1) [] = a1 at hct hc1 hl1
      generalize D.getD (i + 2) [] = a2 at hct hc2 hl2
      generalize D.getD (i + 3) [] = a3 at hct hc3 hl3
      rw [hct] at HTK
      have HC := Lib.hid (fun (W : World) (hW : Below w1.heap.size w1 W) => (⟨(hW.cell (p := ⟨gw, i, none⟩) HGL.out).trans hc0, (hW.cell (p := ⟨gw, i + 1, none⟩) HGL.out).trans hc1, (hW.cell (p := ⟨gw, i + 2, none⟩) HGL.out).trans hc2, (hW.cell (p := ⟨gw, i + 3, none⟩) HGL.out).trans hc3⟩ : _ ∧ _ ∧ _ ∧ _))
      have HA1 : Hid (∀ W : World, (Op.stringOp .add ⟨a0.toArray⟩ ⟨a1.toArray⟩).run Tryz.prog W = .ok (.string ⟨(a0 ++ a1).toArray⟩) W) := Lib.hid fun W => run_string_add_lists (P := Tryz.prog) W _ _ (by omega) (by omega)
      have HA2 : Hid (∀ W : World, (Op.stringOp .add ⟨(a0 ++ a1).toArray⟩ ⟨a2.toArray⟩).run Tryz.prog W = .ok (.string ⟨(a0 ++ a1 ++ a2).toArray⟩) W) := Lib.hid fun W => run_string_add_lists (P := Tryz.prog) W _ _ (by simp; omega) (by omega)
      have HA3 : Hid (∀ W : World, (Op.stringOp .add ⟨(a0 ++ a1 ++ a2).toArray⟩ ⟨a3.toArray⟩).run Tryz.prog W = .ok (.string ⟨(a0 ++ a1 ++ a2 ++ a3).toArray⟩) W) := Lib.hid fun W => run_string_add_lists (P := Tryz.prog) W _ _ (by simp; omega) (by omega)
      generalize a0 ++ a1 = b1 at HA1 HA2 HA3 HTK
      generalize b1 ++ a2 = b2 at HA2 HA3 HTK
      generalize b2 ++ a3 = b3 at HA3 HTK
      have HIK := Lib.hid hik
      obtain ⟨n1, hn1⟩ : ∃ x, i + 1 = x := ⟨_, rfl⟩
      obtain ⟨n2, hn2⟩ : ∃ x, i + 2 = x := ⟨_, rfl⟩
      obtain ⟨n3, hn3⟩ : ∃ x, i + 3 = x := ⟨_, rfl⟩
      rw [hn1, hn2, hn3] at HC
      have e1 : (i : Int) + 1 = (n1 : Int) := by omega
      have e2 : (i : Int) + 2 = (n2 : Int) := by omega
      have e3 : (i : Int) + 3 = (n3 : Int) := by omega
      have i1 : (n1 : Int) < (m : Int) := by omega
      have i2 : (n2 : Int) < (m : Int) := by omega
      have i3 : (n3 : Int) < (m : Int) := by omega
      have HWN : Hid (IntKind.i64.wrap (n1 : Int) = (n1 : Int) ∧ IntKind.i64.wrap (n2 : Int) = (n2 : Int) ∧ IntKind.i64.wrap (n3 : Int) = (n3 : Int)) := Lib.hid (by refine ⟨?_, ?_, ?_⟩ <;> (rw [IntKind.wrap_i64]; omega))
      have hz := hb.size
      clear hct hc0 hc1 hc2 hc3 hl0 hl1 hl2 hl3 hik hn1 hn2 hn3
      go_wp2_with fail
      have HOD : Hid (wr.drew.ownsRow w1.heap.size 9 1 (.slice (some ⟨g, 0, none⟩) k d) k ((L.take k).map sv)) := HO
      have hbD := hb.drew
      refine wp_region_held_drew (S := fun W => Below w1.heap.size w1 W) (by kernel_rfl) hbD (fun hHeld => ?_)
      refine wpAnyH_take (i := 0) (oi := ⟨some 15, _, _, _, _, _⟩) (v := ?_) rfl (by kernel_rfl) (by kernel_rfl) (by kernel_rfl) (fun _ _ _ h => h) (Or.inl ⟨by rfl, ?_⟩) (by assumption) ?_
      rotate_left
      · (intro w9 hSw; (try dsimp only at hSw); go_simp; try with_reducible rfl)
      try simp only [Act.put, List.setIfInBounds_toArray, List.set_cons_zero, List.set_cons_succ]
      refine wpAnyH_take (i := 1) (oi := ⟨some 16, _, _, _, _, _⟩) (v := ?_) rfl (by kernel_rfl) (by kernel_rfl) (by kernel_rfl) (fun _ _ _ h => h) (Or.inl ⟨by rfl, ?_⟩) (by assumption) ?_
      rotate_left
      · (intro w9 hSw; (try dsimp only at hSw); go_simp; try with_reducible rfl)
      try simp only [Act.put, List.setIfInBounds_toArray, List.set_cons_zero, List.set_cons_succ]
      refine wpAnyH_take (i := 2) (oi := ⟨some 17, _, _, _, _, _⟩) (v := ?_) rfl (by kernel_rfl) (by kernel_rfl) (by kernel_rfl) (fun _ _ _ h => h) (Or.inl ⟨by rfl, ?_⟩) (by assumption) ?_
      rotate_left
      · (intro w9 hSw; (try dsimp only at hSw); go_simp; try with_reducible rfl)
      try simp only [Act.put, List.setIfInBounds_toArray, List.set_cons_zero, List.set_cons_succ]
      refine wpAnyH_take (i := 3) (oi := ⟨some 18, _, _, _, _, _⟩) (v := .pointer (some ⟨gw, i, none⟩)) rfl (by kernel_rfl) (by kernel_rfl) (by kernel_rfl) (fun _ _ _ h => h) (Or.inl ⟨by rfl, ?_⟩) (by assumption) ?_
      · (intro w9 hSw; (try dsimp only at hSw); go_simp)
      try simp only [Act.put, List.setIfInBounds_toArray, List.set_cons_zero, List.set_cons_succ]
      refine wpAnyH_take (i := 4) (oi := ⟨some 19, _, _, _, _, _⟩) (v := sv a0) rfl (by kernel_rfl) (by kernel_rfl) (by kernel_rfl) (fun _ _ _ h => h) (Or.inl ⟨by rfl, ?_⟩) (by assumption) ?_
      · (intro w9 hSw; obtain ⟨q0, q1, q2, q3⟩ := HC.out w9 hSw; (try dsimp only at hSw); go_simp)
      try simp only [Act.put, List.setIfInBounds_toArray, List.set_cons_zero, List.set_cons_succ]
      refine wpAnyH_take (i := 5) (oi := ⟨some 20, _, _, _, _, _⟩) (v := ?_) rfl (by kernel_rfl) (by kernel_rfl) (by kernel_rfl) (fun _ _ _ h => h) (Or.inl ⟨by rfl, ?_⟩) (by assumption) ?_
      rotate_left
      · (intro w9 hSw; (try dsimp only at hSw); go_simp; try with_reducible rfl)
      try simp only [Act.put, List.setIfInBounds_toArray, List.set_cons_zero, List.set_cons_succ]
      refine wpAnyH_take (i := 6) (oi := ⟨some 21, _, _, _, _, _⟩) (v := ?_) rfl (by kernel_rfl) (by kernel_rfl) (by kernel_rfl) (fun _ _ _ h => h) (Or.inl ⟨by rfl, ?_⟩) (by assumption) ?_
      rotate_left
      · (intro w9 hSw; (try dsimp only at hSw); go_simp; try with_reducible rfl)
      try simp only [Act.put, List.setIfInBounds_toArray, List.set_cons_zero, List.set_cons_succ]
      refine wpAnyH_take (i := 7) (oi := ⟨some 22, _, _, _, _, _⟩) (v := .int .i64 (n1 : Int)) rfl (by kernel_rfl) (by kernel_rfl) (by kernel_rfl) (fun _ _ _ h => h) (Or.inl ⟨by rfl, ?_⟩) (by assumption) ?_
      · (intro w9 hSw; (try dsimp only at hSw); go_simp; (try rw [e1]); rw [HWN.out.1])
      try simp only [Act.put, List.setIfInBounds_toArray, List.set_cons_zero, List.set_cons_succ]
      refine wpAnyH_take (i := 8) (oi := ⟨some 23, _, _, _, _, _⟩) (v := .pointer (some ⟨gw, n1, none⟩)) rfl (by kernel_rfl) (by kernel_rfl) (by kernel_rfl) (fun _ _ _ h => h) (Or.inl ⟨by rfl, ?_⟩) (by assumption) ?_
      · (intro w9 hSw; (try dsimp only at hSw); go_simp)
      try simp only [Act.put, List.setIfInBounds_toArray, List.set_cons_zero, List.set_cons_succ]
      refine wpAnyH_take (i := 9) (oi := ⟨some 24, _, _, _, _, _⟩) (v := sv a1) rfl (by kernel_rfl) (by kernel_rfl) (by kernel_rfl) (fun _ _ _ h => h) (Or.inl ⟨by rfl, ?_⟩) (by assumption) ?_
      · (intro w9 hSw; obtain ⟨q0, q1, q2, q3⟩ := HC.out w9 hSw; (try dsimp only at hSw); go_simp)
      try simp only [Act.put, List.setIfInBounds_toArray, List.set_cons_zero, List.set_cons_succ]
      refine wpAnyH_take (i := 10) (oi := ⟨some 25, _, _, _, _, _⟩) (v := sv b1) rfl (by kernel_rfl) (by kernel_rfl) (by kernel_rfl) (fun _ _ _ h => h) (Or.inl ⟨by rfl, ?_⟩) (by assumption) ?_
      · (intro w9 hSw; have had := HA1.out w9; (try dsimp only at hSw); go_simp)
      try simp only [Act.put, List.setIfInBounds_toArray, List.set_cons_zero, List.set_cons_succ]
      refine wpAnyH_take (i := 11) (oi := ⟨some 26, _, _, _, _, _⟩) (v := ?_) rfl (by kernel_rfl) (by kernel_rfl) (by kernel_rfl) (fun _ _ _ h => h) (Or.inl ⟨by rfl, ?_⟩) (by assumption) ?_
      rotate_left
      · (intro w9 hSw; (try dsimp only at hSw); go_simp; try with_reducible rfl)
      try simp only [Act.put, List.setIfInBounds_toArray, List.set_cons_zero, List.set_cons_succ]
      refine wpAnyH_take (i := 12) (oi := ⟨some 27, _, _, _, _, _⟩) (v := ?_) rfl (by kernel_rfl) (by kernel_rfl) (by kernel_rfl) (fun _ _ _ h => h) (Or.inl ⟨by rfl, ?_⟩) (by assumption) ?_
      rotate_left
      · (intro w9 hSw; (try dsimp only at hSw); go_simp; try with_reducible rfl)
      try simp only [Act.put, List.setIfInBounds_toArray, List.set_cons_zero, List.set_cons_succ]
      refine wpAnyH_take (i := 13) (oi := ⟨some 28, _, _, _, _, _⟩) (v := .int .i64 (n2 : Int)) rfl (by kernel_rfl) (by kernel_rfl) (by kernel_rfl) (fun _ _ _ h => h) (Or.inl ⟨by rfl, ?_⟩) (by assumption) ?_
      · (intro w9 hSw; (try dsimp only at hSw); go_simp; (try rw [e2]); rw [HWN.out.2.1])
      try simp only [Act.put, List.setIfInBounds_toArray, List.set_cons_zero, List.set_cons_succ]
      refine wpAnyH_take (i := 14) (oi := ⟨some 29, _, _, _, _, _⟩) (v := .pointer (some ⟨gw, n2, none⟩)) rfl (by kernel_rfl) (by kernel_rfl) (by kernel_rfl) (fun _ _ _ h => h) (Or.inl ⟨by rfl, ?_⟩) (by assumption) ?_
      · (intro w9 hSw; (try dsimp only at hSw); go_simp)
      try simp only [Act.put, List.setIfInBounds_toArray, List.set_cons_zero, List.set_cons_succ]
      refine wpAnyH_take (i := 15) (oi := ⟨some 30, _, _, _, _, _⟩) (v := sv a2) rfl (by kernel_rfl) (by kernel_rfl) (by kernel_rfl) (fun _ _ _ h => h) (Or.inl ⟨by rfl, ?_⟩) (by assumption) ?_
      · (intro w9 hSw; obtain ⟨q0, q1, q2, q3⟩ := HC.out w9 hSw; (try dsimp only at hSw); go_simp)
      try simp only [Act.put, List.setIfInBounds_toArray, List.set_cons_zero, List.set_cons_succ]
      refine wpAnyH_take (i := 16) (oi := ⟨some 31, _, _, _, _, _⟩) (v := sv b2) rfl (by kernel_rfl) (by kernel_rfl) (by kernel_rfl) (fun _ _ _ h => h) (Or.inl ⟨by rfl, ?_⟩) (by assumption) ?_
      · (intro w9 hSw; have had := HA2.out w9; (try dsimp only at hSw); go_simp)
      try simp only [Act.put, List.setIfInBounds_toArray, List.set_cons_zero, List.set_cons_succ]
      refine wpAnyH_take (i := 17) (oi := ⟨some 32, _, _, _, _, _⟩) (v := ?_) rfl (by kernel_rfl) (by kernel_rfl) (by kernel_rfl) (fun _ _ _ h => h) (Or.inl ⟨by rfl, ?_⟩) (by assumption) ?_
      rotate_left
      · (intro w9 hSw; (try dsimp only at hSw); go_simp; try with_reducible rfl)
      try simp only [Act.put, List.setIfInBounds_toArray, List.set_cons_zero, List.set_cons_succ]
      refine wpAnyH_take (i := 18) (oi := ⟨some 33, _, _, _, _, _⟩) (v := ?_) rfl (by kernel_rfl) (by kernel_rfl) (by kernel_rfl) (fun _ _ _ h => h) (Or.inl ⟨by rfl, ?_⟩) (by assumption) ?_
      rotate_left
      · (intro w9 hSw; (try dsimp only at hSw); go_simp; try with_reducible rfl)
      try simp only [Act.put, List.setIfInBounds_toArray, List.set_cons_zero, List.set_cons_succ]
      refine wpAnyH_take (i := 19) (oi := ⟨some 34, _, _, _, _, _⟩) (v := .int .i64 (n3 : Int)) rfl (by kernel_rfl) (by kernel_rfl) (by kernel_rfl) (fun _ _ _ h => h) (Or.inl ⟨by rfl, ?_⟩) (by assumption) ?_
      · (intro w9 hSw; (try dsimp only at hSw); go_simp; (try rw [e3]); rw [HWN.out.2.2])
      try simp only [Act.put, List.setIfInBounds_toArray, List.set_cons_zero, List.set_cons_succ]
      refine wpAnyH_take (i := 20) (oi := ⟨some 35, _, _, _, _, _⟩) (v := .pointer (some ⟨gw, n3, none⟩)) rfl (by kernel_rfl) (by kernel_rfl) (by kernel_rfl) (fun _ _ _ h => h) (Or.inl ⟨by rfl, ?_⟩) (by assumption) ?_
      · (intro w9 hSw; (try dsimp only at hSw); go_simp)
      try simp only [Act.put, List.setIfInBounds_toArray, List.set_cons_zero, List.set_cons_succ]
      refine wpAnyH_take (i := 21) (oi := ⟨some 36, _, _, _, _, _⟩) (v := sv a3) rfl (by kernel_rfl) (by kernel_rfl) (by kernel_rfl) (fun _ _ _ h => h) (Or.inl ⟨by rfl, ?_⟩) (by assumption) ?_
      · (intro w9 hSw; obtain ⟨q0, q1, q2, q3⟩ := HC.out w9 hSw; (try dsimp only at hSw); go_simp)
      try simp only [Act.put, List.setIfInBounds_toArray, List.set_cons_zero, List.set_cons_succ]
      refine wpAnyH_take (i := 22) (oi := ⟨some 37, _, _, _, _, _⟩) (v := sv b3) rfl (by kernel_rfl) (by kernel_rfl) (by kernel_rfl) (fun _ _ _ h => h) (Or.inl ⟨by rfl, ?_⟩) (by assumption) ?_
      · (intro w9 hSw; have had := HA3.out w9; (try dsimp only at hSw); go_simp)
      try simp only [Act.put, List.setIfInBounds_toArray, List.set_cons_zero, List.set_cons_succ]
      refine wpAnyH_ready (rs := [23]) (by kernel_rfl) (by simp) ?_
      refine AllReadyH.cons (o := ⟨some 38, _, _, _, _, _⟩) rfl (fun K9 hK9 => ?_) AllReadyH.nil
      go_simp
      refine hK9.out _ _ ?_ (fun hHeld => ?_)
      · exact ba hbD _
      clear hK9 K9
      try simp only [Act.put, List.setIfInBounds_toArray, List.set_cons_zero, List.set_cons_succ]
      refine wpAnyH_ready (rs := [24]) (by kernel_rfl) (by simp) ?_
      refine AllReadyH.cons (o := ⟨some 39, _, _, _, _, _⟩) rfl (fun K9 hK9 => ?_) AllReadyH.nil
      refine step_append_lies _ (by rfl) _ _ _ (by rfl) w1.heap.size 9 i0 (.string ⟨#[]⟩) 1 16 Tryz.underlying116 hi hz0 hz1 hz2 rfl (by omega) (.slice (some ⟨g, 0, none⟩) k d) k ((L.take k).map sv) (by rfl) (own_alloc HOD.out (.cells #[sv b3] 9)) ⟨wr.heap.size, 0, none⟩ 1 1 [sv b3] (by rfl) rfl (World.news_of_block (cs := #[sv b3]) (t := 9) (fr := (0, 0)) (heap_alloc_new wr.drew _)) (by simp [Value.oneCell']) (by omega) (by unfold maxLen; omega) (by omega) (by simp; omega) (wr.heap.size + 1) (by simp) ?_
      intro g1 c1 w3 hown3 hgrow hat hlt3
      simp only [Act.put, List.setIfInBounds_toArray, List.set_cons_zero, List.set_cons_succ]
      have hb3 : Below w1.heap.size w1 w3 := (hbD.alloc hbD.size (.cells #[sv b3] 9)).grown hgrow (by simp; omega) (fun r e => by cases e; exact (HOD.out.lt _ rfl).1)
      have HO3 := Lib.hid hown3
      clear hown3 hgrow hat hlt3
      refine hK9.out _ _ ?_ (fun hHeld => ?_)
      · exact hb3
      clear hK9 K9
      try simp only [Act.put, List.setIfInBounds_toArray, List.set_cons_zero, List.set_cons_succ]
      refine wpAnyH_take (i := 25) (oi := ⟨some 4, _, _, _, _, _⟩) (v := ?_) rfl (by kernel_rfl) (by kernel_rfl) (by kernel_rfl) (fun _ _ _ h => h) (Or.inl ⟨by rfl, ?_⟩) (by assumption) ?_
      rotate_left
      · (intro w9 hSw; (try dsimp only at hSw); go_simp; try with_reducible rfl)
      try simp only [Act.put, List.setIfInBounds_toArray, List.set_cons_zero, List.set_cons_succ]
      refine wpAnyH_done (by kernel_rfl) ?_ _
      have HI4 : Hid ((i : Int) + 4 = ((4 * (k + 1) : Nat) : Int)) := Lib.hid (by have := HIK.out; omega)
      go_wp2_with fail
      exact ⟨⟨k + 1, g1, c1, by omega, by rw [HI4.out], rfl, Lib.hid (by rw [HTK.out, List.map_append]; exact HO3.out), hb3⟩, by simp [intOf]; omega⟩
    · obtain rfl : k = n := by omega
      rw [List.take_of_length_le (Nat.le_of_eq HLL.out)] at HO
      have HOF := Lib.hid (own_mono HO.out HB1.out.size)
      have hbF := bt HB1.out hb
      rw [HM.out]
      clear HO hb
      go_wp2_with fail
      go_ret
      exact ⟨g, d, rfl, HOF.out, hbF⟩
end Go.Proofs.YtcecjoodlmpgnaaGreat
/- The contract of the reference's Encrypt. -/
namespace Go.Proofs.YtcecjoodlmpgnaaGreat
open Go.RowKit

theorem box_map16 {s : List UInt8} (h : s.length = 16) : s.map box8 = boxG s := by
  refine list_ext (n := 16) (by simp [h]) (tab_len _ _) fun i hi => ?_
  unfold boxG
  rw [ub_tab _ hi, ub_at (by rw [List.length_map, h]; exact hi), ub_at (by rw [h]; exact hi)]
  simp
theorem xorA_16 (A B : List UInt8) : xorA 16 A B = keyG A B := rfl
theorem keysL_at (key : List UInt8) (i : Nat) (h : i < key.length / 4 + 7) : (keysL key).getD i [] = keyAt (keysF key) i := by simp [keysL, List.getD, h]
theorem enc_first (last : Nat) (F s : List UInt8) : encN last F s 1 = keyG s (keyAt F 0) := rfl
theorem enc_last (F s : List UInt8) (i : Nat) (h : i ≠ 0) : encN i F s (i + 1) = keyG (turnG (boxG (encN i F s i))) (keyAt F i) := by
  show roundE i F (encN i F s i) i = _
  unfold roundE
  rw [if_neg h, if_pos rfl]
theorem enc_mid (last : Nat) (F s : List UInt8) (i : Nat) (h : i ≠ 0) (h2 : i ≠ last) : encN last F s (i + 1) = keyG (mixG (turnG (boxG (encN last F s i)))) (keyAt F i) := by
  show roundE last F (encN last F s i) i = _
  unfold roundE
  rw [if_neg h, if_neg h2]

set_option maxRecDepth 100000 in
set_option maxHeartbeats 4000000 in
theorem rEnc_any (key l : List UInt8) (w : World) (hk : key.length = 16 ∨ key.length = 32) (hl : l.length = 16) :
    Calls Tryz.prog 47 #[.string ⟨key.toArray⟩, .string ⟨l.toArray⟩] w fun e w' => e = .returned (.string ⟨(encL key l).toArray⟩) ∧ Below w.heap.size w w' := by
  have H1 := Lib.hid (rKeys_any key (key.length / 4 + 7) w hk rfl)
  have HAT := Lib.hid (keysL_at key)
  have HLL := Lib.hid (keysL_len key)
  have HRB : Hid (key.length / 4 + 7 ≤ 15 ∧ 11 ≤ key.length / 4 + 7) := Lib.hid (by omega)
  have HE : Hid (encN (key.length / 4 + 6) (keysF key) l (key.length / 4 + 7) = encL key l) := Lib.hid rfl
  have HL := Lib.hid hl
  obtain ⟨last, hla⟩ : ∃ x, key.length / 4 + 6 = x := ⟨_, rfl⟩
  have hn : key.length / 4 + 7 = last + 1 := by omega
  rw [hn] at H1 HAT HLL HRB HE
  rw [hla] at HE
  obtain ⟨F, hF⟩ : ∃ F, keysF key = F := ⟨_, rfl⟩
  rw [hF] at HAT HE
  obtain ⟨E, hE⟩ : ∃ E, encL key l = E := ⟨_, rfl⟩
  rw [hE] at HE ⊢
  generalize keysL key = D at H1 HLL HAT
  have HEL := Lib.hid (fun i => encN_len last F l hl i)
  have HE1 := Lib.hid (enc_first last F l)
  have HEA := Lib.hid (enc_last F l last)
  have HEM := Lib.hid (enc_mid last F l)
  have hl14 : (last : Int) ≤ 14 := by have := HRB.out; omega
  obtain ⟨n, hn1⟩ : ∃ n, last + 1 = n := ⟨_, rfl⟩
  have hnl : (last : Int) + 1 = (n : Int) := by omega
  rw [hn1] at H1 HAT HLL
  have HNL := Lib.hid hn1
  clear hk hn hla hF hE hn1 hl
  go_enter Tryz.func47, Tryz.ntmps47
  go_wp2_with fail
  refine H1.out.mono ?_
  rintro e w1 ⟨gw, cw, rfl, hw, hb1⟩
  have HGL : Hid (gw < w1.heap.size) := Lib.hid (hw.lt _ rfl).2
  have HCL : Hid (∀ j, j < n → w1.cell? ⟨gw, j, none⟩ = some (sv (keyAt F j))) := Lib.hid (fun j hj => by rw [hw.cellAt j (by omega), svs_at _ _ (by rw [HLL.out]; omega), HAT.out j hj])
  have hc0 := HCL.out 0 (by have := HNL.out; omega)
  have HX0 := Lib.hid (fun W => rXor_any l (keyAt F 0) 16 W HL.out (keyAt_len _ _) (by omega))
  rw [xorA_16, ← HE1.out] at HX0
  generalize keyAt F 0 = K0 at hc0 HX0
  have h0n : (0 : Int) < (n : Int) := by omega
  have HB1 := Lib.hid hb1
  clear hw hb1 H1
  go_wp2_with fail
  refine (HX0.out _).mono ?_
  rintro e w2 ⟨rfl, hb2⟩
  clear hc0
  go_wp2_with fail
  go_loopw [6, 7] (fun sv_ iv wr => ∃ i : Nat, 1 ≤ i ∧ i ≤ n ∧ iv = .int .i64 i ∧ sv_ = .string ⟨(encN last F l i).toArray⟩ ∧ Below w1.heap.size w1 wr) (fun _ iv _ => n - (intOf iv).toNat)
  case atStart => exact ⟨1, Nat.le_refl _, by omega, rfl, rfl, hb2⟩
  case round =>
    clear hb2
    obtain ⟨i, hi1, hin, rfl, rfl, hb⟩ := hrel
    by_cases hlt : i < n
    · have hii : (i : Int) < (n : Int) := by omega
      have hii1 : (1 : Int) ≤ (i : Int) := by omega
      have hc : wr.cell? ⟨gw, i, none⟩ = some (sv (keyAt F i)) := (hb.cell (p := ⟨gw, i, none⟩) HGL.out).trans (HCL.out i hlt)
      have hsl := HEL.out i
      have HBX : Hid (∀ W : World, Calls Tryz.prog 77 #[.string ⟨(encN last F l i).toArray⟩] W fun e w' => e = .returned (.string ⟨(boxG (encN last F l i)).toArray⟩) ∧ Below W.heap.size W w') := Lib.hid (fun W => by rw [← box_map16 hsl]; exact rBoxed_any _ W (by omega))
      have HTN := Lib.hid (fun W => rTurned_any (boxG (encN last F l i)) W (tab_len _ _))
      have HCW := Lib.hid (fun (W : World) (hW : Below w1.heap.size w1 W) => (hW.cell (p := ⟨gw, i, none⟩) HGL.out).trans (HCL.out i hlt))
      by_cases hil : i = last
      · have hea := HEA.out (by omega)
        rw [← hil] at hea
        have HXR := Lib.hid (fun W => rXor_any (turnG (boxG (encN last F l i))) (keyAt F i) 16 W (tab_len _ _) (keyAt_len _ _) (by omega))
        have HSS : Hid (xorA 16 (turnG (boxG (encN last F l i))) (keyAt F i) = encN last F l (i + 1)) := Lib.hid (by rw [xorA_16, ← hil, hea])
        rw [HSS.out] at HXR
        have e1 : (i : Int) + 1 = (n : Int) := by omega
        generalize turnG (boxG (encN last F l i)) = T at HTN HXR
        generalize boxG (encN last F l i) = B at HBX HTN
        generalize keyAt F i = K at HCW HXR
        have HIN : Hid (i + 1 = n) := Lib.hid (by omega)
        clear hea hsl HSS hil hc
        go_wp2_with fail
        refine (HBX.out _).mono ?_
        rintro e w3 ⟨rfl, hb3⟩
        go_wp2_with fail
        refine (HTN.out _).mono ?_
        rintro e w4 ⟨rfl, hb4⟩
        have hB4 := bt (bt hb hb3) hb4
        have hc := HCW.out _ hB4
        clear hb hb3 hb4
        go_wp2_with fail
        refine (HXR.out _).mono ?_
        rintro e w5 ⟨rfl, hb5⟩
        have hB5 := bt hB4 hb5
        clear hc hB4 hb5
        go_wp2_with fail
        exact ⟨⟨i + 1, by omega, by omega, by go_num, rfl, hB5⟩, by simp [intOf]; omega⟩
      · have hem := HEM.out i (by omega) hil
        have HXR := Lib.hid (fun W => rXor_any (mixG (turnG (boxG (encN last F l i)))) (keyAt F i) 16 W (tab_len _ _) (keyAt_len _ _) (by omega))
        have HMX := Lib.hid (fun W => rMixed_any (turnG (boxG (encN last F l i))) W (tab_len _ _))
        have HSS : Hid (xorA 16 (mixG (turnG (boxG (encN last F l i)))) (keyAt F i) = encN last F l (i + 1)) := Lib.hid (by rw [xorA_16, hem])
        rw [HSS.out] at HXR
        obtain ⟨j, hj⟩ : ∃ j, i + 1 = j := ⟨_, rfl⟩
        have e1 : (i : Int) + 1 = (j : Int) := by omega
        have e2 : (j : Int) < (n : Int) := by omega
        generalize mixG (turnG (boxG (encN last F l i))) = M at HMX HXR
        generalize turnG (boxG (encN last F l i)) = T at HTN HMX
        generalize boxG (encN last F l i) = B at HBX HTN
        generalize keyAt F i = K at HCW HXR
        have HIN := Lib.hid hj
        clear hem hsl HSS hj hil
        go_wp2_with fail
        refine (HBX.out _).mono ?_
        rintro e w3 ⟨rfl, hb3⟩
        go_wp2_with fail
        refine (HTN.out _).mono ?_
        rintro e w4 ⟨rfl, hb4⟩
        have hB4 := bt (bt hb hb3) hb4
        clear hb hb3 hb4 hc
        go_wp2_with fail
        refine (HMX.out _).mono ?_
        rintro e w6 ⟨rfl, hb6⟩
        have hB6 := bt hB4 hb6
        have hc := HCW.out _ hB6
        clear hB4 hb6
        go_wp2_with fail
        refine (HXR.out _).mono ?_
        rintro e w5 ⟨rfl, hb5⟩
        have hB5 := bt hB6 hb5
        clear hc hB6 hb5
        go_wp2_with fail
        exact ⟨⟨i + 1, by omega, by omega, by go_num, rfl, hB5⟩, by simp [intOf]; omega⟩
    · obtain rfl : i = n := by omega
      have hEE : encN last F l i = E := by rw [← HNL.out]; exact HE.out
      rw [hEE]
      have hbF := bt HB1.out hb
      clear hb
      go_wp2_with fail
      go_ret
      exact ⟨rfl, hbF⟩
end Go.Proofs.YtcecjoodlmpgnaaGreat
