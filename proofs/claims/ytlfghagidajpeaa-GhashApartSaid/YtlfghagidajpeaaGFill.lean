/- The iterator filled: a text's blocks, as numbers. -/
import Derived.Test.YtlfghagidajpeaaGLaw
import Derived.Test.YtlfghagidajpeaaGPoly
namespace Go.Proofs.Ytlfghagidajpeaa
open Go.RowKit Go.Shelf
attribute [local go_sem] Oper.semAt_some

/-- A text's blocks. -/
def fillC (L : List UInt8) : List Nat := (List.range ((L.length + 15) / 16)).map fun i => bn ((L.drop (16 * i)).take 16)
theorem fillC_len (L : List UInt8) : (fillC L).length = (L.length + 15) / 16 := by simp [fillC]
theorem fillC_at (L : List UInt8) {i : Nat} (h : i < (L.length + 15) / 16) : (fillC L)[i]'(by rw [fillC_len]; exact h) = bn ((L.drop (16 * i)).take 16) := by simp [fillC]
theorem fillC_take (L : List UInt8) {i : Nat} (h : i < (L.length + 15) / 16) : (fillC L).take (i + 1) = (fillC L).take i ++ [bn ((L.drop (16 * i)).take 16)] := by
  rw [← fillC_at L h, List.take_append_getElem]
def strLen (w : World) (b : Nat) : Nat := match w.cell? ⟨b, 0, none⟩ with
  | some (.string s) => s.size
  | _ => 0
theorem strLen_is {w : World} {b : Nat} {l : List UInt8} (h : w.cell? ⟨b, 0, none⟩ = some (.string ⟨l.toArray⟩)) : strLen w b = l.length := by
  unfold strLen
  rw [h]
  exact size_of l
theorem extract_drop' (s : List UInt8) (m n : Nat) (hn : s.length = n) : (⟨s.toArray⟩ : ByteArray).extract m n = ⟨(s.drop m).toArray⟩ := by
  apply ByteArray.ext
  apply Array.toList_inj.1
  rw [Lib.extract_data]
  subst hn
  simp [List.take_of_length_le]

set_option maxRecDepth 100000 in
set_option maxHeartbeats 4000000 in
theorem filled_hands (n : Nat) (hn : 1 ≤ n) (Bs : Nat) (L : List UInt8) (w : World) (hL : (L.length : Int) ≤ 9223372036854775807) (hB : Blk w Bs 9 #[.string ⟨L.toArray⟩]) :
    HandsX n 36 #[.pointer (some ⟨Bs, 0, none⟩)] (fun N => .agg (Pol N)) (fillC L) (fun k => k = Bs) w := by
  rintro l J X W hX hJ hY h0 hbd
  have HJ := Lib.hid hJ
  have HY := Lib.hid hY
  have hXB := (hX Bs rfl).1
  have hBW : Blk W Bs 9 #[.string ⟨L.toArray⟩] := (hX Bs rfl).2.trans hB
  have HT := Lib.hid (fun i hi => fillC_take L (i := i) hi)
  have HFL := Lib.hid (fillC_len L)
  have HP := Lib.hid (fun T k W hT hk => polynomialOf_any T k W hT hk)
  generalize fillC L = zs at HT HFL HY ⊢
  have HST : Hid (J (zs.take 0) X W ∧ X Bs ∧ Bd X W ∧ Blk W Bs 9 #[.string ⟨(L.drop (16 * 0)).toArray⟩]) := Lib.hid ⟨h0, hXB, hbd, hBW⟩
  clear hX hJ hY h0 hXB hbd hB hBW
  refine callsIn_of_wp Try.func36 rfl trivial ?_ rfl
  simp only [Try.ntmps36, List.size_toArray, List.length_cons, List.length_nil, Nat.reduceAdd, Nat.reduceSub, Array.replicate_succ, Array.replicate_zero, List.push_toArray, List.append_toArray, List.nil_append, List.cons_append]
  gi_wp2
  gi_loopw [3] (fun _ wr => ∃ (i : Nat) (Y : Nat → Prop), Hid (i ≤ (L.length + 15) / 16) ∧ Hid (J (zs.take i) Y wr ∧ Y Bs ∧ Bd Y wr ∧ Blk wr Bs 9 #[.string ⟨(L.drop (16 * i)).toArray⟩])) (fun _ wr => strLen wr Bs)
  case atStart => exact ⟨0, X, Lib.hid (Nat.zero_le _), HST⟩
  case round =>
    clear HST
    obtain ⟨i, Y, HI, HK⟩ := hrel
    have hc := HK.out.2.2.2.cell 0
    obtain ⟨M, hM⟩ : ∃ M, L.drop (16 * i) = M := ⟨_, rfl⟩
    rw [hM] at hc
    have hc' : wr.cell? ⟨Bs, 0, none⟩ = some (.string ⟨M.toArray⟩) := hc
    have hsz := size_of M
    have HML : Hid (M.length = L.length - 16 * i) := Lib.hid (by rw [← hM, List.length_drop])
    have HSL := Lib.hid (strLen_is hc')
    by_cases h0 : M.length = 0
    · rw [h0] at hsz
      have hend : (L.length + 15) / 16 ≤ i := by have := HML.out; omega
      have HE : Hid (zs.take i = zs) := Lib.hid (List.take_of_length_le (by rw [HFL.out]; exact hend))
      clear h0 hend hM hc
      gi_wp2
      go_end0
      exact ⟨⟨_, rfl⟩, Y, by rw [← HE.out]; exact HK.out.1, HK.out.2.2.1⟩
    · obtain ⟨m, hm⟩ : ∃ m, M.length = m := ⟨_, rfl⟩
      obtain ⟨s, hs⟩ : ∃ s, min m 16 = s := ⟨_, rfl⟩
      have hlt : i < (L.length + 15) / 16 := by have := HML.out; omega
      have HZ := Lib.hid (HT.out i hlt)
      have hmL : (m : Int) ≤ 9223372036854775807 := by have := HML.out; omega
      have hex := extract_take M s
      have hex2 := extract_drop' M s m hm
      have HTL : Hid ((M.take s).length = s) := Lib.hid (by rw [List.length_take]; omega)
      have hT16 : M.take s = M.take 16 := by
        rw [← hs]
        by_cases h : m ≤ 16
        · rw [Nat.min_eq_left h, List.take_of_length_le (by omega), List.take_of_length_le (by omega)]
        · rw [Nat.min_eq_right (by omega)]
      have HD16 : Hid (M.drop s = L.drop (16 * (i + 1))) := Lib.hid (by
        rw [← hM, List.drop_drop, ← hs]
        by_cases h : 16 ≤ m
        · rw [Nat.min_eq_right h]; rfl
        · have h1 := HML.out
          rw [Nat.min_eq_left (by omega), List.drop_of_length_le (by omega), List.drop_of_length_le (by omega)])
      rw [hM, ← hT16] at HZ
      have HPT := Lib.hid (fun W => HP.out (M.take s) s W HTL.out (by omega))
      generalize M.take s = T at hex HTL HZ HPT
      generalize M.drop s = D at hex2 HD16
      rw [hm] at hsz
      have hpos : 0 < m := by omega
      have hminI : min (m : Int) 16 = (s : Int) := by omega
      have hsm : (s : Int) ≤ (m : Int) := by omega
      have hsm' : s ≤ m := by omega
      have hs16 : s ≤ 16 := by omega
      have hposI : (0 : Int) < (m : Int) := by omega
      have HM := Lib.hid hM
      clear h0 hM hc hT16 hs
      have HJW := Lib.hid (fun wa (hba : Below wr.heap.size wr wa) => HJ.out _ _ _ _ HK.out.1 (Grow.of_below hba Y))
      have HBW := Lib.hid (fun wa (hba : Below wr.heap.size wr wa) => (HK.out.2.2.2.below hba : Blk wa Bs 9 #[.string ⟨(L.drop (16 * i)).toArray⟩]))
      have HPRE : Hid (zs.take i ++ [bn T] <+: zs) := Lib.hid (by rw [← HZ.out]; exact List.take_prefix _ _)
      have HYY := Lib.hid (fun wa (hba : Below wr.heap.size wr wa) => HY.out _ _ _ _ (HJW.out wa hba) (Xn.bd HK.out.2.2.1 hba.size) HPRE.out)
      have HXB : Hid (Y Bs) := Lib.hid HK.out.2.1
      gi_wp2_with fail
      refine ⟨trivial, ?_⟩
      refine (callsIn_wide.2 (HPT.out _)).mono ?_
      rintro e wa ⟨rfl, hba⟩
      obtain ⟨fn, tmps, assign, body, hy, hR⟩ := HYY.out wa hba
      have HR := Lib.hid hR
      clear hR
      gi_wp2
      refine HR.out.mono ?_
      rintro e wb ⟨rfl, hJ3, hk3⟩
      have hB3 : Blk wb Bs 9 #[.string ⟨(L.drop (16 * i)).toArray⟩] := (hk3.2 Bs (.inl HXB.out)).trans (HBW.out wa hba)
      have HB3 := Lib.hid hB3
      have HJ3 := Lib.hid hJ3
      have hbd3 : Bd (Xn Y wr wa) wb := fun k hk => Nat.lt_of_lt_of_le (Xn.bd HK.out.2.2.1 hba.size k hk) hk3.1
      have HBD := Lib.hid hbd3
      have hc3 : wb.cell? ⟨Bs, 0, none⟩ = some (.string ⟨M.toArray⟩) := by rw [← HM.out]; exact hB3.cell 0
      have hf3 : wb.frozen? ⟨Bs, 0, none⟩ = false := hB3.frozen 0
      have hgw := Grow.setCell (X := Xn Y wr wa) (g := Bs) (o := 0) (.inl HXB.out) wb (.string ⟨D.toArray⟩)
      have hfin : J (zs.take (i + 1)) (Xn (Xn Y wr wa) wb (wb.setCell ⟨Bs, 0, none⟩ (.string ⟨D.toArray⟩))) (wb.setCell ⟨Bs, 0, none⟩ (.string ⟨D.toArray⟩)) := by
        rw [HZ.out]
        exact HJ.out _ _ _ _ HJ3.out hgw
      have HFIN : Hid (J (zs.take (i + 1)) (Xn (Xn Y wr wa) wb (wb.setCell ⟨Bs, 0, none⟩ (.string ⟨D.toArray⟩))) (wb.setCell ⟨Bs, 0, none⟩ (.string ⟨D.toArray⟩)) ∧ Xn (Xn Y wr wa) wb (wb.setCell ⟨Bs, 0, none⟩ (.string ⟨D.toArray⟩)) Bs ∧ Bd (Xn (Xn Y wr wa) wb (wb.setCell ⟨Bs, 0, none⟩ (.string ⟨D.toArray⟩))) (wb.setCell ⟨Bs, 0, none⟩ (.string ⟨D.toArray⟩)) ∧ Blk (wb.setCell ⟨Bs, 0, none⟩ (.string ⟨D.toArray⟩)) Bs 9 #[.string ⟨D.toArray⟩]) := Lib.hid ⟨hfin, .inl (.inl HXB.out), Xn.bd hbd3 hgw.size, hB3.set_ 0 (.string ⟨D.toArray⟩)⟩
      have HSF : Hid (strLen (wb.setCell ⟨Bs, 0, none⟩ (.string ⟨D.toArray⟩)) Bs = D.length) := Lib.hid (strLen_is (HFIN.out.2.2.2.cell 0))
      have HDL : Hid (D.length < strLen wr Bs) := Lib.hid (by rw [HSL.out, HD16.out, ← HM.out, List.length_drop, List.length_drop]; have := HML.out; omega)
      clear hy hJ3 hk3 hB3 hbd3 hc' hfin hgw hba
      gi_wp2
      refine ⟨⟨i + 1, _, Lib.hid (by omega), Lib.hid (by rw [← HD16.out]; exact HFIN.out)⟩, ?_⟩
      rw [HSF.out]
      exact HDL.out

set_option maxHeartbeats 1000000 in
theorem filled_any (l : List UInt8) (w : World) :
    Calls Try.prog 34 #[.string ⟨l.toArray⟩] w fun e w' => e = .returned (.func (.func 36) #[] #[.pointer (some ⟨w.heap.size, 0, none⟩)]) ∧ w' = w.alloc (.cells #[.string ⟨l.toArray⟩] 9) := by
  go_enter Try.func34, Try.ntmps34
  go_wp2
  go_ret
  exact ⟨rfl, rfl⟩
set_option maxHeartbeats 1000000 in
theorem bitsOf_any (l : List UInt8) (n : Nat) (w : World) (hn : l.length = n) (hl : n ≤ 80) :
    Calls Try.prog 35 #[.string ⟨l.toArray⟩] w fun e w' => e = .returned (.int .u64 ((8 * n : Nat) : Int)) ∧ w = w' := by
  have hs := size_of l
  rw [hn] at hs
  go_enter Try.func35, Try.ntmps35
  go_wp2
  go_ret
  refine ⟨?_, rfl⟩
  go_num
end Go.Proofs.Ytlfghagidajpeaa
