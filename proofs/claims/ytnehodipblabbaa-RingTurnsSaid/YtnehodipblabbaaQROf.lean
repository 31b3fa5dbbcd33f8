/- The contract of the reference's Of. -/
import Derived.Test.YtnehodipblabbaaQSlot
import Derived.Test.YtnehodipblabbaaQClone
import Derived.Test.YtnehodipblabbaaQNew
import Derived.Deep.DeepCutAuto
import Derived.Deep.CutRange
namespace Go.Proofs.Ytnehodipblabbaa
open Go.RowKit

theorem qof_take (n f : Nat) (l : List (List UInt8)) {j : Nat} (hj : j < n) : (qof n f l).take (j + 1) = (qof n f l).take j ++ [l.getD (qp n f j) []] := by
  rw [List.take_succ_eq_append_getElem (by rw [qof_len]; exact hj)]
  congr 2
  simp [qof]
theorem qown_far {W : World} {base : Nat} {e : TypeId} {size : Nat} {v : Value} {n : Nat} {xs : List Value} (h : W.ownsRow base e size v n xs) {p : Addr} (hp : p.block < base) (u : Value) : (W.setCell p u).ownsRow base e size v n xs := by
  refine ⟨h.1, ?_⟩
  rcases h.2 with h2 | ⟨g, cap, cur, hv, hg, hh, r⟩
  · exact Or.inl h2
  · exact Or.inr ⟨g, cap, cur, hv, hg, (Below.heap_setCell W p u g (by omega)).trans hh, r⟩

abbrev ofbox (w : World) (f t : Nat) : World := (w.alloc (.cells (qcs none 0 0 0 0) 24)).alloc (.cells (qcs none 0 0 (f : Int) (t : Int)) 24)

set_option maxRecDepth 100000 in
set_option maxHeartbeats 8000000 in
theorem rof_any (A : Option Addr) (n c f t : Nat) (l : List (List UInt8)) (w : World) (hA : SR w A l) (hl : l.length = t) (h1 : 1 ≤ n) (h2 : n ≤ 64) (hf : f < n) :
    Calls Try.prog 26 #[.int .i64 (n : Int), .int .i64 (f : Int), .slice A t c] w fun e w' => ∃ A' c', e = .returned (qv A' n c' (f : Int) (t : Int)) ∧ w'.ownsRow (w.heap.size + 1) 9 1 (.slice A' n c') n ((qof n f l).map sv) ∧ Below w.heap.size w w' := by
  obtain ⟨ti, hti, hz0, hz1, hz2⟩ := info_parts infoS
  have HA := Lib.hid hA
  have HLL := Lib.hid hl
  have HB : Hid (w.heap.size + 2 ≤ (ofbox w f t).heap.size ∧ Below w.heap.size w (ofbox w f t)) := Lib.hid ⟨by simp, ba (ba (Below.refl _ _) _) _⟩
  have HR : Hid (Blk (ofbox w f t) w.heap.size 24 (qcs none 0 0 0 0)) := Lib.hid ((Blk.new _ _ _).alloc _)
  have HO : Hid (Blk (ofbox w f t) (w.heap.size + 1) 24 (qcs none 0 0 (f : Int) (t : Int))) := Lib.hid (Blk.newAt (by simp) _ _)
  obtain ⟨T, hT⟩ : ∃ T, qof n f l = T := ⟨_, rfl⟩
  have HTL : Hid (T.length = n) := Lib.hid (by rw [← hT, qof_len])
  have HTS : Hid (∀ j, j < n → T.take (j + 1) = T.take j ++ [l.getD (qp n f j) []]) := Lib.hid fun j hj => by rw [← hT]; exact qof_take n f l hj
  have HF := Lib.hid hf
  rw [hT]
  have hnz : ¬ n = 0 := by omega
  have hnz2 : ¬ (n : Int) = 0 := by omega
  have hf64 : (f : Int) ≤ 64 := by omega
  clear hA hl hT hf
  go_enter Try.func26, Try.ntmps26
  go_upto_region 2 with fail
  go_wp2_with fail
  go_loopw [8] (fun jv wr => ∃ (j c' : Nat) (A' : Option Addr), j ≤ n ∧ jv = .int .i64 (j : Int) ∧ Hid (Blk wr (w.heap.size + 1) 24 (qcs A' j c' (f : Int) (t : Int))) ∧ Hid (wr.ownsRow (w.heap.size + 2) 9 1 (.slice A' j c') j ((T.take j).map sv)) ∧ Hid (Blk wr w.heap.size 24 (qcs none 0 0 0 0)) ∧ Hid (w.heap.size + 2 ≤ wr.heap.size ∧ Below w.heap.size w wr)) (fun jv _ => n - (intOf jv).toNat)
  case atStart => exact ⟨0, 0, none, Nat.zero_le _, rfl, HO, Lib.hid (World.ownsRow_nil _ _ _ _), HR, HB⟩
  case round =>
    clear HB HR HO
    obtain ⟨j, c', A', hj, rfl, HO, HOW, HR, HB⟩ := hrel
    by_cases hlt : j < n
    · have hli : (j : Int) < (n : Int) := by omega
      have HT1 := Lib.hid (HTS.out j hlt)
      obtain ⟨s, hs⟩ : ∃ s, j + n - f = s := ⟨_, rfl⟩
      have hfn := HF.out
      have e1 : (j : Int) - (f : Int) + (n : Int) = (s : Int) := by omega
      have e2 : s ≤ 140 := by omega
      have e3 : qp n f j = s % n := by unfold qp; rw [hs]
      have e4 : Int.tmod (s : Int) (n : Int) = ((s % n : Nat) : Int) := by rw [Int.tmod_eq_emod_of_nonneg (by omega)]; omega
      have e5 : (s : Int) % (n : Int) = ((s % n : Nat) : Int) := by omega
      have em : s % n < n := Nat.mod_lt _ (by omega)
      rw [e3] at HT1
      clear e3 hs hfn
      generalize s % n = p at e4 e5 em HT1
      obtain ⟨⟨o0, o1, o2⟩, _⟩ := qcells HO.out
      obtain ⟨x, hx⟩ : ∃ x, l.getD p [] = x := ⟨_, rfl⟩
      rw [hx] at HT1
      have hownA := HOW.out.alloc (.cells #[sv x] 9)
      have hnews := World.news_of_block (heap_alloc_new wr (.cells #[sv x] 9))
      have R3 := Lib.hid (HR.out.alloc (.cells #[sv x] 9))
      have O3 := Lib.hid (HO.out.alloc (.cells #[sv x] 9))
      have B3 := Lib.hid (ba HB.out.2 (.cells #[sv x] 9))
      have HFIN : Hid (∀ (w5 : World) (g6 c6 : Nat), w5.ownsRow (w.heap.size + 2) 9 1 (.slice (some ⟨g6, 0, none⟩) (j + 1) c6) (j + 1) ((T.take j).map sv ++ [sv x]) → (wr.alloc (.cells #[sv x] 9)).grownBy w5 (Value.slice A' j c').ownBlock → Blk w5 (w.heap.size + 1) 24 (qcs A' j c' (f : Int) (t : Int)) ∧
          Hid (Blk (w5.setCell ⟨w.heap.size + 1, 0, none⟩ (.slice (some ⟨g6, 0, none⟩) (j + 1) c6)) (w.heap.size + 1) 24 (qcs (some ⟨g6, 0, none⟩) (j + 1) c6 (f : Int) (t : Int))) ∧
          Hid ((w5.setCell ⟨w.heap.size + 1, 0, none⟩ (.slice (some ⟨g6, 0, none⟩) (j + 1) c6)).ownsRow (w.heap.size + 2) 9 1 (.slice (some ⟨g6, 0, none⟩) (j + 1) c6) (j + 1) ((T.take (j + 1)).map sv)) ∧
          Hid (Blk (w5.setCell ⟨w.heap.size + 1, 0, none⟩ (.slice (some ⟨g6, 0, none⟩) (j + 1) c6)) w.heap.size 24 (qcs none 0 0 0 0)) ∧
          Hid (w.heap.size + 2 ≤ (w5.setCell ⟨w.heap.size + 1, 0, none⟩ (.slice (some ⟨g6, 0, none⟩) (j + 1) c6)).heap.size ∧ Below w.heap.size w (w5.setCell ⟨w.heap.size + 1, 0, none⟩ (.slice (some ⟨g6, 0, none⟩) (j + 1) c6)))) := Lib.hid (fun w5 g6 c6 hown5 hgrow5 => by
        have hz5 := hgrow5.size
        simp only [World.size_alloc] at hz5
        have hz2 := HB.out.1
        have O5 := Blk.grown O3.out hgrow5 (fun e => by have := (hownA.lt _ e.symm).1; omega)
        have R5 := Blk.grown R3.out hgrow5 (fun e => by have := (hownA.lt _ e.symm).1; omega)
        have B5 := B3.out.grown hgrow5 (by simp; omega) (fun k e => by have := (hownA.lt k e).1; omega)
        refine ⟨O5, Lib.hid (O5.set_ 0 _), Lib.hid ?_, Lib.hid (R5.far (p := ⟨w.heap.size + 1, 0, none⟩) (by simp) _), Lib.hid ⟨by simp [World.setCell]; omega, bs B5 (by omega) _⟩⟩
        rw [HT1.out, List.map_append]
        exact qown_far hown5 (p := ⟨w.heap.size + 1, 0, none⟩) (by simp) _)
      by_cases hpt : p < t
      · obtain ⟨g, off, rfl, c0⟩ := (HA.out.later HB.out.2) p (by rw [HLL.out]; exact hpt)
        have i1 : (p : Int) < (t : Int) := by omega
        rw [hx] at c0
        clear hx hpt
        go_wp2_with (at_builtin; refine wpList_append_own _ rfl _ _ 22 rfl (w.heap.size + 2) 9 ti _ 1 16 Try.underlying22 hti hz0 hz1 hz2 rfl (by decide) _ _ _ rfl hownA ⟨wr.heap.size, 0, none⟩ 1 1 [sv x] rfl rfl hnews (by simp [Value.oneCell']) (by unfold maxLen; omega) (by omega) (by have := HB.out.1; simp; omega) ?_; intro v4 w5 hown5 hgrow5 _; obtain ⟨g6, c6, rfl⟩ := ownsRow_succ hown5; have HE := Lib.hid (HFIN.out w5 g6 c6 hown5 hgrow5); obtain ⟨⟨o0, o1, o2⟩, p0, p1, p2⟩ := qcells HE.out.1)
        obtain ⟨_, f1, f2, f3, f4⟩ := HE.out
        exact ⟨⟨j + 1, c6, some ⟨g6, 0, none⟩, by omega, by go_num, f1, f2, f3, f4⟩, by simp [intOf]; omega⟩
      · have hx0 : x = [] := by rw [← hx]; exact qgetD_out (by rw [HLL.out]; omega)
        have i1 : (t : Int) ≤ (p : Int) := by omega
        subst hx0
        clear hx hpt
        go_wp2_with (at_builtin; refine wpList_append_own _ rfl _ _ 22 rfl (w.heap.size + 2) 9 ti _ 1 16 Try.underlying22 hti hz0 hz1 hz2 rfl (by decide) _ _ _ rfl hownA ⟨wr.heap.size, 0, none⟩ 1 1 [sv []] rfl rfl hnews (by simp [Value.oneCell']) (by unfold maxLen; omega) (by omega) (by have := HB.out.1; simp; omega) ?_; intro v4 w5 hown5 hgrow5 _; obtain ⟨g6, c6, rfl⟩ := ownsRow_succ hown5; have HE := Lib.hid (HFIN.out w5 g6 c6 hown5 hgrow5); obtain ⟨⟨o0, o1, o2⟩, p0, p1, p2⟩ := qcells HE.out.1)
        obtain ⟨_, f1, f2, f3, f4⟩ := HE.out
        exact ⟨⟨j + 1, c6, some ⟨g6, 0, none⟩, by omega, by go_num, f1, f2, f3, f4⟩, by simp [intOf]; omega⟩
    · obtain rfl : j = n := by omega
      have hli : ¬ (j : Int) < (j : Int) := by omega
      have HOW2 : Hid (wr.ownsRow (w.heap.size + 2) 9 1 (.slice A' j c') j (T.map sv)) := Lib.hid (by have := HOW.out; rwa [List.take_of_length_le (by rw [HTL.out]; exact Nat.le_refl _)] at this)
      obtain ⟨⟨o0, o1, o2⟩, _⟩ := qcells HO.out
      obtain ⟨⟨r0, r1, r2⟩, p0, p1, p2⟩ := qcells HR.out
      go_wp2
      refine bodyPost_ret (ring1_result rfl (((HR.out.set_ 0 _).set_ 1 _).set_ 2 _)) rfl ?_
      refine ⟨A', c', rfl, ?_, bs (bs (bs HB.out.2 (by omega) _) (by omega) _) (by omega) _⟩
      exact own_base' (qown_far (qown_far (qown_far HOW2.out (by simp) _) (by simp) _) (by simp) _) (by omega)
end Go.Proofs.Ytnehodipblabbaa
