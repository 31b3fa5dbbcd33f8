/- The contract of the reference's Crash. -/
import Derived.Test.YtiibgbdhbamajaaDRefB
namespace Go.Proofs.Ytiibgbdhbamajaa
open Go.RowKit

/-- What a cache's first ones leave of the bits. -/
theorem keptD_step (C : List PutL) (K i : Nat) (h : i < C.length) : keptD K (C.take (i + 1)) = keptD K (C.take i) ++ (if (K / 2 ^ i) % 2 = 1 then [C.getD i (0, [])] else []) := keptD_take C K i h
theorem keptD_len_take (C : List PutL) (K i : Nat) : (keptD K (C.take i)).length ≤ i := by
  have h1 := keptD_len (C.take i) K
  rw [List.length_take] at h1
  omega

set_option maxRecDepth 100000 in
set_option maxHeartbeats 8000000 in
theorem rcrash_any (A B : Option Addr) (c d n m : Nat) (S : List (List UInt8)) (C : List PutL) (K : Nat) (w : World) (hA : SR w A S) (hB : PR w B C) (hn : S.length = n) (hm : C.length = m) (hn2 : n ≤ 64) (hm2 : m ≤ 60) (hK : K < 18446744073709551616) :
    Calls Try.prog 21 #[dv A n c B m d, .int .u64 (K : Int)] w fun e w' => ∃ A' c', e = .returned (dv A' n c' none 0 0) ∧ SR w' A' (storeD S (keptD K C)) ∧ Below w.heap.size w w' := by
  obtain ⟨ti, hi, hz0, hz1, hz2⟩ := info_parts infoP
  obtain ⟨tj, hj, hy0, hy1, hy2⟩ := info_parts infoS
  have V : Hid (Blk (((w.alloc (.cells #[.slice A n c, .slice B m d] 25)).alloc (.cells #[.slice none 0 0, .slice none 0 0] 25)).alloc (.cells #[] 47)) w.heap.size 25 #[.slice A n c, .slice B m d]) := Lib.hid (((Blk.new w _ _).alloc _).alloc _)
  have hB0 : Hid (Below w.heap.size w (((w.alloc (.cells #[.slice A n c, .slice B m d] 25)).alloc (.cells #[.slice none 0 0, .slice none 0 0] 25)).alloc (.cells #[] 47))) := Lib.hid (ba (ba (ba (Below.refl _ _) _) _) _)
  have k1 : Hid (Blk (((w.alloc (.cells #[.slice A n c, .slice B m d] 25)).alloc (.cells #[.slice none 0 0, .slice none 0 0] 25)).alloc (.cells #[] 47)) (w.heap.size + 1) 25 #[.slice none 0 0, .slice none 0 0]) := Lib.hid ((Blk.newAt (by simp) _ _).alloc _)
  have HO : Hid ((((w.alloc (.cells #[.slice A n c, .slice B m d] 25)).alloc (.cells #[.slice none 0 0, .slice none 0 0] 25)).alloc (.cells #[] 47)).ownsRow (w.heap.size + 2) 47 2 (.slice (some ⟨w.heap.size + 2, 0, none⟩) 0 0) 0 []) := Lib.hid (by
    have := Blk.new ((w.alloc (.cells #[.slice A n c, .slice B m d] 25)).alloc (.cells #[.slice none 0 0, .slice none 0 0] 25)) 47 #[]
    simp only [World.size_alloc] at this
    exact down_nil this (Nat.le_refl _))
  have HA := Lib.hid hA
  have HB := Lib.hid hB
  have HN := Lib.hid hn
  have HM := Lib.hid hm
  have HT : Hid (∀ i, i < m → keptD K (C.take (i + 1)) = keptD K (C.take i) ++ (if (K / 2 ^ i) % 2 = 1 then [C.getD i (0, [])] else [])) := Lib.hid fun i hi => keptD_take C K i (by rw [hm]; exact hi)
  have HL : Hid (∀ i, (keptD K (C.take i)).length ≤ i) := Lib.hid fun i => keptD_len_take C K i
  have HE : Hid (keptD K (C.take m) = keptD K C) := Lib.hid (by rw [← hm, List.take_length])
  obtain ⟨Z, hZ⟩ : ∃ Z, storeD S (keptD K C) = Z := ⟨_, rfl⟩
  rw [hZ]
  have HZ := Lib.hid hZ
  clear hA hB hn hm hZ
  go_enter Try.func21, Try.ntmps21
  go_upto_region 2 with fail
  generalize (((w.alloc (.cells #[.slice A n c, .slice B m d] 25)).alloc (.cells #[.slice none 0 0, .slice none 0 0] 25)).alloc (.cells #[] 47)) = w3 at V hB0 k1 HO ⊢
  obtain ⟨q0, q1, _, _⟩ := dcells V.out
  go_wp2_with fail
  clear q0 q1
  go_loopw [1, 5, 15] (fun kv ov iv wr => ∃ (i q : Nat) (g5 c5 : Nat) (L : List PutL), i ≤ m ∧ kv = .int .u64 ((q : Nat) : Int) ∧ Hid (q = K / 2 ^ i) ∧ ov = .slice (some ⟨g5, 0, none⟩) L.length c5 ∧ iv = .int .i64 (i : Int) ∧ Hid (L = keptD K (C.take i)) ∧ L.length ≤ i ∧ Hid (wr.ownsRow (w.heap.size + 2) 47 2 (.slice (some ⟨g5, 0, none⟩) L.length c5) L.length (pcells L)) ∧ Hid (Blk wr w.heap.size 25 #[.slice A n c, .slice B m d]) ∧ Hid (Blk wr (w.heap.size + 1) 25 #[.slice none 0 0, .slice none 0 0]) ∧ Hid (w.heap.size + 2 ≤ wr.heap.size ∧ Below w.heap.size w wr)) (fun _ _ i _ => m - (intOf i).toNat)
  case atStart =>
    exact ⟨0, K, w.heap.size + 2, 0, [], Nat.zero_le _, rfl, Lib.hid (by simp), rfl, rfl, Lib.hid rfl, Nat.le_refl _, HO, V, k1, Lib.hid ⟨by have := HO.out.lt (w.heap.size + 2) rfl; omega, hB0.out⟩⟩
  case round =>
    obtain ⟨i, q, g5, c5, L, him, rfl, HQ, rfl, rfl, HLK, hLi, HOW, HK0, HK1, HBW⟩ := hrel
    by_cases hlt : i < m
    · obtain ⟨g, off, hBe, p0, p1⟩ := (HB.out.later HBW.out.2) i (by rw [HM.out]; exact hlt)
      subst hBe
      have HTi := Lib.hid (HT.out i hlt)
      generalize C.getD i (0, []) = x at p0 p1 HTi
      obtain ⟨xk, xs⟩ := x
      simp only at p0 p1
      have j0 : (0 : Int) ≤ (i : Int) := by omega
      have j1 : (i : Int) < (m : Int) := by omega
      obtain ⟨q2, hq2⟩ : ∃ q2, q / 2 = q2 := ⟨_, rfl⟩
      have hqd : (q : Int) / 2 = (q2 : Int) := by omega
      have HQ2 : Hid (q2 = K / 2 ^ (i + 1)) := Lib.hid (by rw [← hq2, HQ.out, Nat.div_div_eq_div_mul, Nat.pow_succ])
      have hwr : IntKind.u64.wrap (q2 : Int) = (q2 : Int) := by
        have h1 : q ≤ K := by rw [HQ.out]; exact Nat.div_le_self _ _
        rw [IntKind.wrap_u64]
        omega
      clear hq2
      by_cases hbit : q % 2 = 1
      · have hb1 : (q : Int) % 2 = 1 := by omega
        have HLN : Hid (L ++ [(xk, xs)] = keptD K (C.take (i + 1))) := Lib.hid (by rw [HTi.out, ← HQ.out, if_pos hbit, HLK.out])
        have HPL : Hid (pcells (L ++ [(xk, xs)]) = pcells L ++ [.int .i64 xk, sv xs] ∧ (L ++ [(xk, xs)]).length = L.length + 1) := Lib.hid ⟨by rw [pcells_more]; rfl, by simp⟩
        generalize L ++ [(xk, xs)] = L2 at HLN HPL
        have hownA := (HOW.out.alloc (.cells #[.int .i64 xk, sv xs] 47)).alloc (.cells #[.int .i64 xk, sv xs] 47)
        have hnews := World.news_of_block (heap_alloc_new (wr.alloc (.cells #[.int .i64 xk, sv xs] 47)) (.cells #[.int .i64 xk, sv xs] 47))
        rw [World.size_alloc] at hnews
        have K6 := Lib.hid ((HK0.out.alloc (.cells #[.int .i64 xk, sv xs] 47)).alloc (.cells #[.int .i64 xk, sv xs] 47))
        have K7 := Lib.hid ((HK1.out.alloc (.cells #[.int .i64 xk, sv xs] 47)).alloc (.cells #[.int .i64 xk, sv xs] 47))
        have HB6 := Lib.hid (ba (ba HBW.out.2 (.cells #[.int .i64 xk, sv xs] 47)) (.cells #[.int .i64 xk, sv xs] 47))
        clear hbit HTi
        go_wp2_with (at_builtin; refine wpList_append_own _ rfl _ _ 23 rfl (w.heap.size + 2) 47 ti _ 2 24 Try.underlying23 hi hz0 hz1 hz2 rfl (by decide) _ _ _ rfl hownA ⟨wr.heap.size + 1, 0, none⟩ 1 1 [.int .i64 xk, sv xs] rfl rfl hnews (by simp [Value.oneCell']) (by unfold maxLen; omega) (by omega) (by have := HBW.out.1; simp; omega) ?_; intro v4 w5 hown5 hgrow5 _; obtain ⟨g6, c6, rfl⟩ := ownsRow_succ hown5)
        have K8 := Lib.hid (Blk.grown K6.out hgrow5 (fun e => by have := (hownA.lt _ e.symm).1; omega))
        have K9 := Lib.hid (Blk.grown K7.out hgrow5 (fun e => by have := (hownA.lt _ e.symm).1; omega))
        have z5 := hgrow5.size
        simp only [World.size_alloc] at z5
        have hz5 := HBW.out.1
        have HB7 : Hid (w.heap.size + 2 ≤ w5.heap.size ∧ Below w.heap.size w w5) := Lib.hid ⟨by omega, HB6.out.grown hgrow5 (by simp; omega) (fun k e => by have := (hownA.lt k e).1; omega)⟩
        have HO5 : Hid (w5.ownsRow (w.heap.size + 2) 47 2 (.slice (some ⟨g6, 0, none⟩) L2.length c6) L2.length (pcells L2)) := Lib.hid (by rw [HPL.out.1, HPL.out.2]; exact hown5)
        refine ⟨⟨i + 1, q2, g6, c6, L2, by omega, rfl, HQ2, by rw [HPL.out.2], by go_num, HLN, by have := HPL.out.2; omega, HO5, K8, K9, HB7⟩, by simp [intOf]; omega⟩
      · have hb1 : (q : Int) % 2 = 0 := by omega
        have HLN : Hid (L = keptD K (C.take (i + 1))) := Lib.hid (by rw [HTi.out, ← HQ.out, if_neg hbit, HLK.out, List.append_nil])
        have hownA := Lib.hid (HOW.out.alloc (.cells #[.int .i64 xk, sv xs] 47))
        have K6 := Lib.hid (HK0.out.alloc (.cells #[.int .i64 xk, sv xs] 47))
        have K7 := Lib.hid (HK1.out.alloc (.cells #[.int .i64 xk, sv xs] 47))
        have HB6 := Lib.hid (ba HBW.out.2 (.cells #[.int .i64 xk, sv xs] 47))
        clear hbit HTi
        go_wp2
        exact ⟨⟨i + 1, q2, g5, c5, L, by omega, rfl, HQ2, rfl, by go_num, HLN, by omega, hownA, K6, K7, Lib.hid ⟨by have := HBW.out.1; simp; omega, HB6.out⟩⟩, by simp [intOf]; omega⟩
    · obtain rfl : i = m := by omega
      obtain ⟨we, hwe⟩ : ∃ we, we = wr := ⟨_, rfl⟩
      subst hwe
      have hL60 : L.length ≤ 60 := by omega
      have HLE : Hid (L = keptD K C) := Lib.hid (by rw [HLK.out, HE.out])
      have HPR : Hid (PR we (some ⟨g5, 0, none⟩) L) := Lib.hid (own_PR HOW.out rfl)
      have HSR : Hid (SR we A S) := Lib.hid (HA.out.later HBW.out.2)
      have hZ := HZ.out
      have HZR : Hid (∀ k, k < n → Z.take (k + 1) = Z.take k ++ [readD S L k]) := Lib.hid fun k hk => by rw [← hZ, HLE.out]; exact storeD_take S (keptD K C) (by rw [HN.out]; exact hk)
      have HZL : Hid (Z.length = n) := Lib.hid (by rw [← hZ, storeD_len, HN.out])
      obtain ⟨q0, q1, _, _⟩ := dcells HK0.out
      clear HT HL HE HLK HLE hZ HZ
      have kL := Lib.hid ((Blk.new we 25 #[.slice A n c, .slice (some ⟨g5, 0, none⟩) L.length c5]).alloc (.cells #[] 9))
      have HO2 : Hid (((we.alloc (.cells #[.slice A n c, .slice (some ⟨g5, 0, none⟩) L.length c5] 25)).alloc (.cells #[] 9)).ownsRow (we.heap.size + 1) 9 1 (.slice (some ⟨we.heap.size + 1, 0, none⟩) 0 0) 0 []) := Lib.hid (by
        have := Blk.new (we.alloc (.cells #[.slice A n c, .slice (some ⟨g5, 0, none⟩) L.length c5] 25)) 9 #[]
        simp only [World.size_alloc] at this
        exact down_nil this (Nat.le_refl _))
      have HB8 : Hid (Below we.heap.size we ((we.alloc (.cells #[.slice A n c, .slice (some ⟨g5, 0, none⟩) L.length c5] 25)).alloc (.cells #[] 9))) := Lib.hid (ba (ba (Below.refl _ _) _) _)
      obtain ⟨q2, q3, _, _⟩ := dcells (Blk.below HK0.out HB8.out)
      go_upto_region 11 with fail
      generalize ((we.alloc (.cells #[.slice A n c, .slice (some ⟨g5, 0, none⟩) L.length c5] 25)).alloc (.cells #[] 9)) = wl at kL HO2 HB8 q2 q3 ⊢
      go_wp2_with fail
      clear q0 q1 q2 q3
      go_loopw [9, 37] (fun ov iv wi => ∃ (k g7 c7 : Nat), k ≤ n ∧ iv = .int .i64 (k : Int) ∧ ov = .slice (some ⟨g7, 0, none⟩) k c7 ∧ Hid (wi.ownsRow (we.heap.size + 1) 9 1 (.slice (some ⟨g7, 0, none⟩) k c7) k ((Z.take k).map sv)) ∧ Hid (Blk wi we.heap.size 25 #[.slice A n c, .slice (some ⟨g5, 0, none⟩) L.length c5]) ∧ Hid (Below we.heap.size we wi)) (fun _ i _ => n - (intOf i).toNat)
      case atStart => exact ⟨0, we.heap.size + 1, 0, Nat.zero_le _, rfl, rfl, HO2, kL, HB8⟩
      case round =>
        obtain ⟨k, g7, c7, hkn, rfl, rfl, HO7, HKL, HB9⟩ := hrel
        by_cases hlt2 : k < n
        · obtain ⟨r0, r1, _, _⟩ := dcells HKL.out
          have HRD := Lib.hid (rread_any A (some ⟨g5, 0, none⟩) c c5 n L.length S L k wr (HSR.out.later HB9.out) (HPR.out.later HB9.out) HN.out rfl hlt2 (by omega) (by omega))
          have HZk := Lib.hid (HZR.out k hlt2)
          generalize readD S L k = y at HRD HZk
          have j0 : (0 : Int) ≤ (k : Int) := by omega
          have j1 : (k : Int) < (n : Int) := by omega
          go_wp2_with fail
          refine HRD.out.mono ?_
          rintro e w4 ⟨rfl, hb4⟩
          have hownA := (own_later HO7.out hb4).alloc (.cells #[sv y] 9)
          have hnews := World.news_of_block (heap_alloc_new w4 (.cells #[sv y] 9))
          have KL2 := Lib.hid ((HKL.out.below hb4).alloc (.cells #[sv y] 9))
          have HB10 := Lib.hid (ba (bt HB9.out hb4) (.cells #[sv y] 9))
          have Z4 := Lib.hid (bt HB9.out hb4).size
          have ZK := Lib.hid (HKL.out.below hb4).lt
          clear r0 r1 hb4
          go_wp2_with (at_builtin; refine wpList_append_own _ rfl _ _ 22 rfl (we.heap.size + 1) 9 tj _ 1 16 Try.underlying22 hj hy0 hy1 hy2 rfl (by decide) _ _ _ rfl hownA ⟨w4.heap.size, 0, none⟩ 1 1 [sv y] rfl rfl hnews (by simp [Value.oneCell']) (by unfold maxLen; omega) (by omega) (by have := ZK.out; simp; omega) ?_; intro v5 w5 hown5 hgrow5 _; obtain ⟨g8, c8, rfl⟩ := ownsRow_succ hown5)
          have K8 := Lib.hid (Blk.grown KL2.out hgrow5 (fun e => by have := (hownA.lt _ e.symm).1; omega))
          have HB11 := Lib.hid (HB10.out.grown hgrow5 (by have := Z4.out; simp; omega) (fun k e => by have := (hownA.lt k e).1; omega))
          have HO8 : Hid (w5.ownsRow (we.heap.size + 1) 9 1 (.slice (some ⟨g8, 0, none⟩) (k + 1) c8) (k + 1) ((Z.take (k + 1)).map sv)) := Lib.hid (by rw [HZk.out, List.map_append]; exact hown5)
          exact ⟨⟨k + 1, g8, c8, by omega, by go_num, rfl, HO8, K8, HB11⟩, by simp [intOf]; omega⟩
        · obtain rfl : k = n := by omega
          have hTK : Z.take k = Z := List.take_of_length_le (by rw [HZL.out]; exact Nat.le_refl _)
          have HO9 := HO7.out
          rw [hTK] at HO9
          have hSZ : SR wr (some ⟨g7, 0, none⟩) Z := own_SR HO9 HZL.out
          have hg7 := HO9.lt g7 rfl
          have K2 := HK1.out.below HB9.out
          obtain ⟨_, _, f0, f1⟩ := dcells K2
          obtain ⟨r0, r1, _, _⟩ := dcells K2
          have HS9 := Lib.hid hSZ
          have hz := HBW.out.1
          clear hTK HO9 hSZ
          go_wp2
          have KK := (K2.set_ 0 (.slice (some ⟨g7, 0, none⟩) k c7)).set_ 1 (.slice none 0 0)
          refine bodyPost_ret (dev1_result rfl KK) rfl ?_
          exact ⟨some ⟨g7, 0, none⟩, c7, rfl, (HS9.out.far (fun g off e => by cases e; simp; omega) _).far (fun g off e => by cases e; simp; omega) _, bs (bs (bt HBW.out.2 HB9.out) (by omega) _) (by omega) _⟩
end Go.Proofs.Ytiibgbdhbamajaa
