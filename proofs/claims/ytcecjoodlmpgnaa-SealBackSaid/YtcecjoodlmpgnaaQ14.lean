/- Texts of this seat, one behind the other: AGKey, AEnc, AEncr, AEncT. -/
import Derived.Test.YtcecjoodlmpgnaaQ12
import Derived.Test.YtcecjoodlmpgnaaQ13
/- The contract of a grid's keyed. -/
namespace Go.Proofs.Ytcecjoodlmpgnaa
open Go.RowKit

set_option maxRecDepth 100000 in
set_option maxHeartbeats 4000000 in
theorem gkeyed_any (G : List UInt8) (K : List UInt8) (r gb : Nat) (w : World) (hG : G.length = 16) (hK : K.length = 16) (hr : Blk w r 108 (rnd K gb)) :
    Calls Try.prog 82 #[.agg (G.map uv).toArray, .pointer (some ⟨r, 0, none⟩)] w fun e w' => e = .returned (.agg ((keyG G K).map uv).toArray) ∧ Below w.heap.size w w' := by
  have HG := Lib.hid hG
  have HZ := Lib.hid (zerosL_len 16)
  have HGZ := Lib.hid gzero
  have HN : Hid ((keyG G K).length = 16) := Lib.hid (tab_len _ _)
  have HI := Lib.hid (gcol_at G hG)
  have HU : Hid (∀ c, c < 4 → xorW [ub G (c * 4), ub G (c * 4 + 1), ub G (c * 4 + 2), ub G (c * 4 + 3)] [ub K (c * 4), ub K (c * 4 + 1), ub K (c * 4 + 2), ub K (c * 4 + 3)] = [ub (keyG G K) (c * 4), ub (keyG G K) (c * 4 + 1), ub (keyG G K) (c * 4 + 2), ub (keyG G K) (c * 4 + 3)]) := Lib.hid (keyG_col G K)
  have HRW := Lib.hid hr
  have HRB := Lib.hid (fun i (hi : i < 16) => rnd_key gb hK hi)
  clear hr hK
  obtain ⟨N, hN⟩ : ∃ N, keyG G K = N := ⟨_, rfl⟩
  rw [hN] at HN HU ⊢
  have H0 : Hid ((G.map uv).toArray = ((cutL (0 * 4) N G).map uv).toArray) := Lib.hid (by rw [Nat.zero_mul, cutL_zero])
  obtain ⟨Z, hZ⟩ : ∃ Z, zerosL 16 = Z := ⟨_, rfl⟩
  rw [hZ] at HZ HGZ
  clear hZ hN hG
  go_enter Try.func82, Try.ntmps82
  go_upto_region 1 with fail
  rw [HGZ.out]
  have B0 := Lib.hid ((Blk.new w 78 (G.map uv).toArray).alloc (.cells (Z.map uv).toArray 78))
  have Z0 : Hid (Blk ((w.alloc (.cells (G.map uv).toArray 78)).alloc (.cells (Z.map uv).toArray 78)) (w.heap.size + 1) 78 (Z.map uv).toArray) := Lib.hid (Blk.newAt (by simp) _ _)
  have hb0 := ba (ba (Below.refl w.heap.size w) (.cells (G.map uv).toArray 78)) (.cells (Z.map uv).toArray 78)
  generalize (w.alloc (.cells (G.map uv).toArray 78)).alloc (.cells (Z.map uv).toArray 78) = w1 at B0 Z0 hb0
  go_wp2_with (refine wpList_load_row rfl _ _ rfl _ rfl _ _ _ _ B0.out Try.underlying78 rfl (glen HG.out) ?_)
  rw [H0.out] at B0
  go_loopw [8] (fun iv wr => ∃ i : Nat, i ≤ 4 ∧ iv = .int .i64 i ∧ Hid (Blk wr (w.heap.size + 1) 78 (Z.map uv).toArray) ∧ Hid (Blk wr w.heap.size 78 ((cutL (i * 4) N G).map uv).toArray) ∧ Below w.heap.size w wr) (fun iv _ => 4 - (intOf iv).toNat)
  case atStart => exact ⟨0, Nat.zero_le _, rfl, Z0, B0, hb0⟩
  case round =>
    clear Z0 B0 hb0
    obtain ⟨c, hc, rfl, Z1, B, hb⟩ := hrel
    by_cases hlt : c < 4
    · have hcl : (c : Int) < 4 := by omega
      have c0 : (0 : Int) ≤ (c : Int) := by omega
      have hix := HI.out c hlt
      have hu := HU.out c hlt
      have HP := Lib.hid (fun (W : World) (t : TypeId) (hB : Blk W w.heap.size t ((cutL (c * 4) N G).map uv).toArray) => put4 hB HN.out HG.out (by omega))
      have HTH := Lib.hid (fun (W : World) (t : TypeId) (hB : Blk W w.heap.size t ((cutL (c * 4) N G).map uv).toArray) => hB.spare (o := c * 4) (n := 4) (by rw [uvs_size, cutL_len HN.out HG.out (by omega)]; omega))
      have HSE : Hid (c * 4 + 4 = (c + 1) * 4) := Lib.hid (by omega)
      obtain ⟨n0, hn0⟩ : ∃ n, ub N (c * 4) = n := ⟨_, rfl⟩
      obtain ⟨n1, hn1⟩ : ∃ n, ub N (c * 4 + 1) = n := ⟨_, rfl⟩
      obtain ⟨n2, hn2⟩ : ∃ n, ub N (c * 4 + 2) = n := ⟨_, rfl⟩
      obtain ⟨n3, hn3⟩ : ∃ n, ub N (c * 4 + 3) = n := ⟨_, rfl⟩
      rw [hn0, hn1, hn2, hn3] at hu HP
      have HM := Lib.hid (fun W => xor_any (ub G (c * 4)) (ub G (c * 4 + 1)) (ub G (c * 4 + 2)) (ub G (c * 4 + 3)) (ub K (c * 4)) (ub K (c * 4 + 1)) (ub K (c * 4 + 2)) (ub K (c * 4 + 3)) W)
      rw [hu] at HM
      have HRC : Hid ((rnd K gb)[c * 4]? = some (uv (ub K (c * 4))) ∧ (rnd K gb)[c * 4 + 1]? = some (uv (ub K (c * 4 + 1))) ∧ (rnd K gb)[c * 4 + 2]? = some (uv (ub K (c * 4 + 2))) ∧ (rnd K gb)[c * 4 + 3]? = some (uv (ub K (c * 4 + 3)))) := Lib.hid ⟨HRB.out _ (by omega), HRB.out _ (by omega), HRB.out _ (by omega), HRB.out _ (by omega)⟩
      generalize ub K (c * 4) = k0 at HM HRC
      generalize ub K (c * 4 + 1) = k1 at HM HRC
      generalize ub K (c * 4 + 2) = k2 at HM HRC
      generalize ub K (c * 4 + 3) = k3 at HM HRC
      clear hu
      generalize ub G (c * 4) = x0 at hix HM
      generalize ub G (c * 4 + 1) = x1 at hix HM
      generalize ub G (c * 4 + 2) = x2 at hix HM
      generalize ub G (c * 4 + 3) = x3 at hix HM
      have hz1 := hb.size
      have hz2 := Z1.out.lt
      clear hn0 hn1 hn2 hn3 hlt hc
      go_wp2_with fail
      have BA := Lib.hid (B.out.alloc (.cells #[uv x0, uv x1, uv x2, uv x3] 76)).drew
      have ZA := Lib.hid (Z1.out.alloc (.cells #[uv x0, uv x1, uv x2, uv x3] 76)).drew
      have hbA := (ba hb (.cells #[uv x0, uv x1, uv x2, uv x3] 76)).drew
      have WA := Lib.hid (Blk.new wr 76 #[uv x0, uv x1, uv x2, uv x3]).drew
      have RA := Lib.hid (((HRW.out.below hb).alloc (.cells #[uv x0, uv x1, uv x2, uv x3] 76))).drew
      have zq := B.out.lt
      clear B Z1 hb hix
      refine wp_region_held_drew (S := fun W => Blk W wr.heap.size 76 #[uv x0, uv x1, uv x2, uv x3] ∧ Blk W r 108 (rnd K gb)) (by kernel_rfl) ?_ (fun hHeld => ?_)
      · exact ⟨WA.out, RA.out⟩
      refine wpAnyH_take (i := 0) (oi := ⟨some 12, _, _, _, _, _⟩) (v := ?_) rfl (by kernel_rfl) (by kernel_rfl) (by kernel_rfl) (fun _ _ _ h => h) (Or.inl ⟨by rfl, ?_⟩) (by assumption) ?_
      rotate_left
      · (intro w9 hSw; (try dsimp only at hSw); go_simp; try with_reducible rfl)
      try simp only [Act.put, List.setIfInBounds_toArray, List.set_cons_zero, List.set_cons_succ]
      refine wpAnyH_take (i := 1) (oi := ⟨some 13, _, _, _, _, _⟩) (v := .agg #[uv x0, uv x1, uv x2, uv x3]) rfl (by kernel_rfl) (by kernel_rfl) (by kernel_rfl) (fun _ _ _ h => h) (Or.inl ⟨by rfl, ?_⟩) (by assumption) ?_
      · (intro w9 hSw; have q0 := hSw.1.cell 0; have q1 := hSw.1.cell 1; have q2 := hSw.1.cell 2; have q3 := hSw.1.cell 3; simp only [List.getElem?_toArray, List.getElem?_cons_zero, List.getElem?_cons_succ] at q0 q1 q2 q3; (try dsimp only at hSw); go_simp)
      try simp only [Act.put, List.setIfInBounds_toArray, List.set_cons_zero, List.set_cons_succ]
      refine wpAnyH_take (i := 2) (oi := ⟨some 14, _, _, _, _, _⟩) (v := ?_) rfl (by kernel_rfl) (by kernel_rfl) (by kernel_rfl) (fun _ _ _ h => h) (Or.inl ⟨by rfl, ?_⟩) (by assumption) ?_
      rotate_left
      · (intro w9 hSw; (try dsimp only at hSw); go_simp; try with_reducible rfl)
      try simp only [Act.put, List.setIfInBounds_toArray, List.set_cons_zero, List.set_cons_succ]
      refine wpAnyH_take (i := 3) (oi := ⟨some 15, _, _, _, _, _⟩) (v := ?_) rfl (by kernel_rfl) (by kernel_rfl) (by kernel_rfl) (fun _ _ _ h => h) (Or.inl ⟨by rfl, ?_⟩) (by assumption) ?_
      rotate_left
      · (intro w9 hSw; (try dsimp only at hSw); go_simp; try with_reducible rfl)
      try simp only [Act.put, List.setIfInBounds_toArray, List.set_cons_zero, List.set_cons_succ]
      refine wpAnyH_take (i := 4) (oi := ⟨some 16, _, _, _, _, _⟩) (v := ?_) rfl (by kernel_rfl) (by kernel_rfl) (by kernel_rfl) (fun _ _ _ h => h) (Or.inl ⟨by rfl, ?_⟩) (by assumption) ?_
      rotate_left
      · (intro w9 hSw; (try dsimp only at hSw); go_simp; try with_reducible rfl)
      try simp only [Act.put, List.setIfInBounds_toArray, List.set_cons_zero, List.set_cons_succ]
      refine wpAnyH_take (i := 5) (oi := ⟨some 17, _, _, _, _, _⟩) (v := ?_) rfl (by kernel_rfl) (by kernel_rfl) (by kernel_rfl) (fun _ _ _ h => h) (Or.inl ⟨by rfl, ?_⟩) (by assumption) ?_
      rotate_left
      · (intro w9 hSw; (try dsimp only at hSw); go_simp; try with_reducible rfl)
      try simp only [Act.put, List.setIfInBounds_toArray, List.set_cons_zero, List.set_cons_succ]
      refine wpAnyH_take (i := 6) (oi := ⟨some 18, _, _, _, _, _⟩) (v := .pointer (some ⟨r, c * 4, none⟩)) rfl (by kernel_rfl) (by kernel_rfl) (by kernel_rfl) (fun _ _ _ h => h) (Or.inl ⟨by rfl, ?_⟩) (by assumption) ?_
      · (intro w9 hSw; (try dsimp only at hSw); go_simp)
      try simp only [Act.put, List.setIfInBounds_toArray, List.set_cons_zero, List.set_cons_succ]
      refine wpAnyH_take (i := 7) (oi := ⟨some 19, _, _, _, _, _⟩) (v := .agg #[uv k0, uv k1, uv k2, uv k3]) rfl (by kernel_rfl) (by kernel_rfl) (by kernel_rfl) (fun _ _ _ h => h) (Or.inl ⟨by rfl, ?_⟩) (by assumption) ?_
      · (intro w9 hSw; have q0 := (hSw.2.cell (c * 4)).trans HRC.out.1; have q1 := (hSw.2.cell (c * 4 + 1)).trans HRC.out.2.1; have q2 := (hSw.2.cell (c * 4 + 2)).trans HRC.out.2.2.1; have q3 := (hSw.2.cell (c * 4 + 3)).trans HRC.out.2.2.2; (try dsimp only at hSw); go_simp)
      try simp only [Act.put, List.setIfInBounds_toArray, List.set_cons_zero, List.set_cons_succ]
      refine wpAnyH_ready (rs := [8]) (by kernel_rfl) (by simp) ?_
      refine AllReadyH.cons (o := ⟨some 20, _, _, _, _, _⟩) rfl (fun K9 hK9 => ?_) AllReadyH.nil
      go_simp
      go_at_call 86
      refine (HM.out _).mono ?_
      rintro e w2 ⟨rfl, hb2⟩
      have hS6 : Blk w2 wr.heap.size 76 #[uv x0, uv x1, uv x2, uv x3] ∧ Blk w2 r 108 (rnd K gb) := ⟨WA.out.below hb2, RA.out.below hb2⟩
      go_wp2_with fail
      refine hK9.out _ _ ?_ (fun hHeld => ?_)
      · assumption
      clear hK9 K9
      try simp only [Act.put, List.setIfInBounds_toArray, List.set_cons_zero, List.set_cons_succ]
      refine wpAnyH_take (i := 9) (oi := ⟨some 21, _, _, _, _, _⟩) (v := .pointer (some ⟨w.heap.size, c * 4, none⟩)) rfl (by kernel_rfl) (by kernel_rfl) (by kernel_rfl) (fun _ _ _ h => h) (Or.inl ⟨by rfl, ?_⟩) (by assumption) ?_
      · (intro w9 hSw; (try dsimp only at hSw); go_simp)
      try simp only [Act.put, List.setIfInBounds_toArray, List.set_cons_zero, List.set_cons_succ]
      refine wpAnyH_ready (rs := [10]) (by kernel_rfl) (by simp) ?_
      refine AllReadyH.cons (o := ⟨none, _, _, _, _, _⟩) rfl (fun K9 hK9 => ?_) AllReadyH.nil
      have B2 := Lib.hid (BA.out.below hb2)
      have Z2 := Lib.hid (ZA.out.below hb2)
      have hB2 := bt hbA hb2
      have HRN : Hid (r < w.heap.size) := Lib.hid HRW.out.lt
      have HT2 : Hid (w2.there w.heap.size (c * 4) (([n0, n1, n2, n3].map uv).toArray).size) := Lib.hid (HTH.out _ _ B2.out)
      have B3 := Lib.hid (HP.out _ _ B2.out)
      have Z3 := Lib.hid (Z2.out.far_ (k := w.heap.size + 1) (g := w.heap.size) (by omega) (c * 4) [uv n0, uv n1, uv n2, uv n3])
      have hb3 := bw hB2 (g := w.heap.size) (Nat.le_refl _) (c * 4) [uv n0, uv n1, uv n2, uv n3]
      have hset : w2.setCells w.heap.size (c * 4) [uv n0, uv n1, uv n2, uv n3] = w2.setCells w.heap.size (c * 4) ([n0, n1, n2, n3].map uv) := rfl
      rw [hset] at B3 Z3 hb3

      have hS8 : Blk (w2.setCells w.heap.size (c * 4) ([n0, n1, n2, n3].map uv)) wr.heap.size 76 #[uv x0, uv x1, uv x2, uv x3] ∧ Blk (w2.setCells w.heap.size (c * 4) ([n0, n1, n2, n3].map uv)) r 108 (rnd K gb) := ⟨hS6.1.far_ (by omega) _ _, hS6.2.far_ (by have := HRN.out; omega) _ _⟩
      refine step_store_mid rfl _ _ _ rfl w.heap.size (c * 4) ([n0, n1, n2, n3].map uv).toArray (by rfl) (by rfl) HT2.out (by kernel_rfl) (all_oneCell_toArray (uvs_one [n0, n1, n2, n3])) ?_
      refine hK9.out _ _ ?_ (fun hHeld => ?_)
      · exact hS8
      clear hK9 K9
      try simp only [Act.put]
      refine wpAnyH_done (by kernel_rfl) ?_ _
      generalize w2.setCells w.heap.size (c * 4) ([n0, n1, n2, n3].map uv) = w3 at B3 Z3 hb3
      clear hset HT2 B2 Z2 hB2 hS6 hS8 hHeld BA ZA hbA WA RA hb2
      rw [HSE.out] at B3
      go_wp2_with fail
      exact ⟨⟨c + 1, by omega, by go_num, Z3, B3, hb3⟩, by simp [intOf]; omega⟩
    · obtain rfl : c = 4 := by omega
      have hB := B.out
      rw [show 4 * 4 = 16 from rfl, cutL_all HN.out HG.out] at hB
      have HBN := Lib.hid hB
      have HONE := Lib.hid (uvs_one N)
      clear hB B
      go_wp2_with (first | (refine wpList_load_row rfl _ _ rfl _ rfl _ _ _ _ HBN.out Try.underlying78 rfl (glen HN.out) ?_) | (refine wpList_store_mid rfl _ _ _ rfl _ _ (N.map uv).toArray rfl rfl (gthere Z1.out HZ.out HN.out) (glen HN.out) (all_oneCell_toArray HONE.out) ?_))
      have hW := Z1.out.whole (N.map uv) (by rw [List.length_map, uvs_size, HN.out, HZ.out])
      refine bodyPost_ret (v := .agg (N.map uv).toArray) (results_cell_row rfl _ _ _ _ _ _ _ rfl hW Try.underlying78 rfl (glen HN.out)) rfl ?_
      exact ⟨rfl, bw hb (by omega) _ _⟩
end Go.Proofs.Ytcecjoodlmpgnaa
/- The contracts of steps and of a grid's encrypted. -/
namespace Go.Proofs.Ytcecjoodlmpgnaa
open Go.RowKit

/-- What a step does, by its function's number. -/
def semF (K : List UInt8) (f : Nat) (s : List UInt8) : List UInt8 :=
  if f = 82 then keyG s K else if f = 83 then boxG s else if f = 84 then turnG s else mixG s
theorem semF_len (K : List UInt8) (f : Nat) (s : List UInt8) : (semF K f s).length = 16 := by
  unfold semF
  split
  · exact tab_len _ _
  · split
    · exact tab_len _ _
    · split <;> exact tab_len _ _
def applyF (K : List UInt8) (fs : List Nat) (s : List UInt8) : List UInt8 := fs.foldl (fun s f => semF K f s) s
theorem applyF_take (K : List UInt8) (fs : List Nat) (s : List UInt8) (k : Nat) (h : k < fs.length) : applyF K (fs.take (k + 1)) s = semF K (fs.getD k 0) (applyF K (fs.take k) s) := by
  unfold applyF
  rw [List.take_succ_eq_append_getElem h, List.foldl_append]
  simp [List.getD, h]
theorem applyF_len (K : List UInt8) (fs : List Nat) (s : List UInt8) (hs : s.length = 16) : (applyF K fs s).length = 16 := by
  induction fs generalizing s with
  | nil => exact hs
  | cons f fs ih => exact ih _ (semF_len K f s)
def fsOf (i last : Nat) : List Nat :=
  if i = 0 then [82]
  else if i = last then [83, 84, 82]
  else [83, 84, 85, 82]
theorem roundE_is (last : Nat) (F s : List UInt8) (i : Nat) : roundE last F s i = applyF (keyAt F i) (fsOf i last) s := by
  unfold roundE fsOf
  by_cases h0 : i = 0
  · rw [if_pos h0, if_pos h0, h0]; rfl
  · rw [if_neg h0, if_neg h0]
    by_cases h1 : i = last
    · rw [if_pos h1, if_pos h1]; rfl
    · rw [if_neg h1, if_neg h1]; rfl
theorem fsOf_mem (i last k : Nat) (h : k < (fsOf i last).length) : (fsOf i last).getD k 0 = 82 ∨ (fsOf i last).getD k 0 = 83 ∨ (fsOf i last).getD k 0 = 84 ∨ (fsOf i last).getD k 0 = 85 := by
  unfold fsOf at h ⊢
  by_cases h0 : i = 0
  · rw [if_pos h0] at h ⊢
    obtain rfl : k = 0 := by simpa using h
    decide
  · rw [if_neg h0] at h ⊢
    by_cases h1 : i = last
    · rw [if_pos h1] at h ⊢
      obtain rfl | rfl | rfl : k = 0 ∨ k = 1 ∨ k = 2 := by simp at h; omega
      all_goals decide
    · rw [if_neg h1] at h ⊢
      obtain rfl | rfl | rfl | rfl : k = 0 ∨ k = 1 ∨ k = 2 ∨ k = 3 := by simp at h; omega
      all_goals decide
/-- A function's value. -/
def fcell (f : Nat) : Value := .func (.func f) #[] #[]
theorem fcell_at (fs : List Nat) (k : Nat) (h : k < fs.length) : ((fs.map fcell).toArray)[k]? = some (fcell (fs.getD k 0)) := by simp [h, List.getD]

set_option maxRecDepth 100000 in
set_option maxHeartbeats 1000000 in
theorem steps_any (i last : Nat) (w : World) (hi : (i : Int) ≤ 1000) (hl : (last : Int) ≤ 1000) :
    Calls Try.prog 63 #[.int .i64 (i : Int), .int .i64 (last : Int)] w fun e w' => ∃ g, e = .returned (.slice (some ⟨g, 0, none⟩) (fsOf i last).length (fsOf i last).length) ∧ w.heap.size ≤ g ∧ Blk w' g 112 ((fsOf i last).map fcell).toArray ∧ Below w.heap.size w w' := by
  by_cases h0 : i = 0
  · have e : fsOf i last = [82] := by unfold fsOf; rw [if_pos h0]
    rw [e]
    subst h0
    go_enter Try.func63, Try.ntmps63
    go_wp2
    go_ret
    exact ⟨_, rfl, Nat.le_refl _, Blk.new w _ _, ba (Below.refl _ _) _⟩
  · by_cases h1 : i = last
    · have e : fsOf i last = [83, 84, 82] := by unfold fsOf; rw [if_neg h0, if_pos h1]
      rw [e]
      subst h1
      have z0 : ((i : Int) == 0) = false := by simp; omega
      go_enter Try.func63, Try.ntmps63
      go_wp2
      go_ret
      exact ⟨_, rfl, Nat.le_refl _, Blk.new w _ _, ba (Below.refl _ _) _⟩
    · have e : fsOf i last = [83, 84, 85, 82] := by unfold fsOf; rw [if_neg h0, if_neg h1]
      rw [e]
      have z0 : ((i : Int) == 0) = false := by simp; omega
      have z1 : ((i : Int) == (last : Int)) = false := by simp; omega
      go_enter Try.func63, Try.ntmps63
      go_wp2
      go_ret
      exact ⟨_, rfl, Nat.le_refl _, Blk.new w _ _, ba (Below.refl _ _) _⟩
end Go.Proofs.Ytcecjoodlmpgnaa
/- The contract of a grid's encrypted. -/
namespace Go.Proofs.Ytcecjoodlmpgnaa
open Go.RowKit

theorem fcall_any (f : Nat) (hf : f = 82 ∨ f = 83 ∨ f = 84 ∨ f = 85) (G K : List UInt8) (r gb : Nat) (w : World) (hG : G.length = 16) (hK : K.length = 16) (hr : Blk w r 108 (rnd K gb)) (hx : Blk w gb 5 bxs) :
    Calls Try.prog f #[.agg (G.map uv).toArray, .pointer (some ⟨r, 0, none⟩)] w fun e w' => e = .returned (.agg ((semF K f G).map uv).toArray) ∧ Below w.heap.size w w' := by
  rcases hf with rfl | rfl | rfl | rfl
  · exact gkeyed_any G K r gb w hG hK hr
  · exact gboxed_any G K r gb w hG hK hr hx
  · exact gturned_any G _ w hG
  · exact gmixed_any G _ w hG
theorem keyAt_len (F : List UInt8) (i : Nat) : (keyAt F i).length = 16 := tab_len _ _
theorem key_range {w : World} {g n i : Nat} {t : TypeId} {F : List UInt8} (h : Blk w g t (F.map uv).toArray) (hF : F.length = n * 16) (hi : i < n) : w.rangeAt g (i * 16) ((keyAt F i).map uv) := fun j v hv => by
  have hj : j < 16 := by
    have := (List.getElem?_eq_some_iff.1 hv).1
    rw [List.length_map, keyAt_len] at this
    exact this
  have e := row_at (L := keyAt F i) (i := j) (by rw [keyAt_len]; exact hj)
  rw [List.getElem?_toArray, hv] at e
  rw [h.cell, row_at (by omega), e]
  unfold keyAt
  rw [ub_tab _ hj, Nat.mul_comm]
theorem fsOf_len (i last : Nat) : (fsOf i last).length ≤ 4 := by
  unfold fsOf
  split
  · decide
  · split <;> decide
theorem encN_succ (last : Nat) (F s : List UInt8) (i : Nat) : encN last F s (i + 1) = applyF (keyAt F i) (fsOf i last) (encN last F s i) := roundE_is _ _ _ _

theorem fold_size (l : List (Value × Nat)) : ∀ a : Array Value, (List.foldl (fun (cs : Array Value) (x : Value × Nat) => cs.setIfInBounds x.snd x.fst) a l).size = a.size := by
  induction l with
  | nil => intro a; rfl
  | cons x l ih => intro a; rw [List.foldl_cons, ih]; simp
theorem build_size (K : List UInt8) : (List.foldl (fun (cs : Array Value) (x : Value × Nat) => cs.setIfInBounds x.snd x.fst) #[.int .u8 0, .int .u8 0, .int .u8 0, .int .u8 0, .int .u8 0, .int .u8 0, .int .u8 0, .int .u8 0, .int .u8 0, .int .u8 0, .int .u8 0, .int .u8 0, .int .u8 0, .int .u8 0, .int .u8 0, .int .u8 0, .slice none 0 0] (List.map uv K).zipIdx).size = 17 := fold_size _ _
theorem build_rnd {K : List UInt8} (gb : Nat) (h : K.length = 16) : (List.foldl (fun (cs : Array Value) (x : Value × Nat) => cs.setIfInBounds x.snd x.fst) #[.int .u8 0, .int .u8 0, .int .u8 0, .int .u8 0, .int .u8 0, .int .u8 0, .int .u8 0, .int .u8 0, .int .u8 0, .int .u8 0, .int .u8 0, .int .u8 0, .int .u8 0, .int .u8 0, .int .u8 0, .int .u8 0, .slice none 0 0] (List.map uv K).zipIdx).setIfInBounds 16 (.slice (some ⟨gb, 0, none⟩) 256 256) = rnd K gb := by
  obtain ⟨g0, g1, g2, g3, g4, g5, g6, g7, g8, g9, g10, g11, g12, g13, g14, g15, rfl⟩ := list16 h
  kernel_rfl

set_option maxRecDepth 100000 in
set_option maxHeartbeats 4000000 in
theorem encrypted_any (G F : List UInt8) (gk gb rounds last : Nat) (w : World) (hG : G.length = 16) (hF : F.length = rounds * 16) (hR : rounds ≤ 15) (hl : last + 1 = rounds) (hk : Blk w gk 78 (F.map uv).toArray) (hx : Blk w gb 5 bxs) :
    Calls Try.prog 41 #[.agg (G.map uv).toArray, .slice (some ⟨gk, 0, none⟩) rounds rounds, .slice (some ⟨gb, 0, none⟩) 256 256] w fun e w' => e = .returned (.agg ((encN last F G rounds).map uv).toArray) ∧ Below w.heap.size w w' := by
  have HK := Lib.hid hk
  have HX := Lib.hid hx
  have HF := Lib.hid hF
  have HRR : Hid (rounds ≤ 15 ∧ last + 1 = rounds) := Lib.hid ⟨hR, hl⟩
  have HEL := Lib.hid (fun i => encN_len last F G hG i)
  have HES := Lib.hid (fun i => encN_succ last F G i)
  obtain ⟨N, hN⟩ : ∃ N, encN last F G rounds = N := ⟨_, rfl⟩
  have HNN : Hid (N.length = 16) := Lib.hid (by rw [← hN]; exact HEL.out rounds)
  have HNE := Lib.hid hN
  rw [hN]
  clear hN
  have HGZ := Lib.hid gzero
  have HZ := Lib.hid (zerosL_len 16)
  have HE0 : Hid (encN last F G 0 = G) := Lib.hid rfl
  have hll : (rounds : Int) - 1 = (last : Int) := by omega
  have hr15 : (rounds : Int) ≤ 15 := by omega
  obtain ⟨Z, hZ⟩ : ∃ Z, zerosL 16 = Z := ⟨_, rfl⟩
  rw [hZ] at HZ HGZ
  clear hZ hG hF hR hl hk hx
  go_enter Try.func41, Try.ntmps41
  go_upto_region 1 with fail
  rw [HGZ.out]
  have B0 := Lib.hid ((Blk.new w 78 (G.map uv).toArray).alloc (.cells (Z.map uv).toArray 78))
  have Z0 : Hid (Blk ((w.alloc (.cells (G.map uv).toArray 78)).alloc (.cells (Z.map uv).toArray 78)) (w.heap.size + 1) 78 (Z.map uv).toArray) := Lib.hid (Blk.newAt (by simp) _ _)
  have hb0 := ba (ba (Below.refl w.heap.size w) (.cells (G.map uv).toArray 78)) (.cells (Z.map uv).toArray 78)
  generalize (w.alloc (.cells (G.map uv).toArray 78)).alloc (.cells (Z.map uv).toArray 78) = w1 at B0 Z0 hb0
  rw [← HE0.out] at B0
  go_wp2_with fail
  go_loopw [14] (fun iv wr => ∃ i : Nat, i ≤ rounds ∧ iv = .int .i64 i ∧ Hid (Blk wr (w.heap.size + 1) 78 (Z.map uv).toArray) ∧ Hid (Blk wr w.heap.size 78 ((encN last F G i).map uv).toArray) ∧ Below w.heap.size w wr) (fun iv _ => rounds - (intOf iv).toNat)
  case atStart => exact ⟨0, Nat.zero_le _, rfl, Z0, B0, hb0⟩
  case round =>
    clear Z0 B0 hb0
    obtain ⟨i, hi, rfl, Z1, B, hb⟩ := hrel
    by_cases hlt : i < rounds
    · have hil : (i : Int) < (rounds : Int) := by omega
      have i0 : (0 : Int) ≤ (i : Int) := by omega
      have hes := HES.out i
      have HSL := Lib.hid (HEL.out i)
      generalize encN last F G i = s at hes B HSL
      have HRG := Lib.hid (key_range (HK.out.below hb) HF.out hlt)
      have HKL := Lib.hid (keyAt_len F i)
      obtain ⟨K, hK⟩ : ∃ K, keyAt F i = K := ⟨_, rfl⟩
      rw [hK] at hes HRG HKL
      have HFM := Lib.hid (fsOf_mem i last)
      have hfl := fsOf_len i last
      have HST := Lib.hid (fun W => steps_any i last W (by omega) (by have := HRR.out; omega))
      obtain ⟨fs, hfs⟩ : ∃ fs, fsOf i last = fs := ⟨_, rfl⟩
      rw [hfs] at hes HFM HST hfl
      have HES1 := Lib.hid hes
      clear hes hK hfs
      have HNB := Lib.hid (Blk.new wr 78 #[.int .u8 0, .int .u8 0, .int .u8 0, .int .u8 0, .int .u8 0, .int .u8 0, .int .u8 0, .int .u8 0, .int .u8 0, .int .u8 0, .int .u8 0, .int .u8 0, .int .u8 0, .int .u8 0, .int .u8 0, .int .u8 0])
      have HNT : Hid ((wr.alloc (.cells #[.int .u8 0, .int .u8 0, .int .u8 0, .int .u8 0, .int .u8 0, .int .u8 0, .int .u8 0, .int .u8 0, .int .u8 0, .int .u8 0, .int .u8 0, .int .u8 0, .int .u8 0, .int .u8 0, .int .u8 0, .int .u8 0] 78)).there wr.heap.size 0 (K.map uv).toArray.size) := Lib.hid (HNB.out.there (by rw [uvs_size, HKL.out]; exact Nat.le_refl 16))
      have KNB : Hid (Blk ((wr.alloc (.cells #[.int .u8 0, .int .u8 0, .int .u8 0, .int .u8 0, .int .u8 0, .int .u8 0, .int .u8 0, .int .u8 0, .int .u8 0, .int .u8 0, .int .u8 0, .int .u8 0, .int .u8 0, .int .u8 0, .int .u8 0, .int .u8 0] 78)).setCells wr.heap.size 0 (K.map uv)) wr.heap.size 78 (K.map uv).toArray) := Lib.hid (HNB.out.whole (K.map uv) (by rw [List.length_map, HKL.out]; rfl))
      have hzb := hb.size
      have hbl := B.out.lt
      have hzl := Z1.out.lt
      have B2 := Lib.hid ((B.out.alloc (.cells #[.int .u8 0, .int .u8 0, .int .u8 0, .int .u8 0, .int .u8 0, .int .u8 0, .int .u8 0, .int .u8 0, .int .u8 0, .int .u8 0, .int .u8 0, .int .u8 0, .int .u8 0, .int .u8 0, .int .u8 0, .int .u8 0] 78)).far_ (g := wr.heap.size) (by omega) 0 (K.map uv))
      have Z2 := Lib.hid ((Z1.out.alloc (.cells #[.int .u8 0, .int .u8 0, .int .u8 0, .int .u8 0, .int .u8 0, .int .u8 0, .int .u8 0, .int .u8 0, .int .u8 0, .int .u8 0, .int .u8 0, .int .u8 0, .int .u8 0, .int .u8 0, .int .u8 0, .int .u8 0] 78)).far_ (g := wr.heap.size) (by omega) 0 (K.map uv))
      have hb2 := bw (ba hb (.cells #[.int .u8 0, .int .u8 0, .int .u8 0, .int .u8 0, .int .u8 0, .int .u8 0, .int .u8 0, .int .u8 0, .int .u8 0, .int .u8 0, .int .u8 0, .int .u8 0, .int .u8 0, .int .u8 0, .int .u8 0, .int .u8 0] 78)) (g := wr.heap.size) (by omega) 0 (K.map uv)
      go_upto_region 4 with (first | (refine wpList_load_mid rfl _ _ rfl gk (i * 16) rfl (K.map uv) _ HRG.out Try.underlying78 rfl (by rw [List.length_map, HKL.out]; kernel_rfl) ?_) | (refine wpList_store_mid rfl _ _ _ rfl wr.heap.size 0 (K.map uv).toArray rfl rfl HNT.out (glen HKL.out) (all_oneCell_toArray (uvs_one K)) ?_))
      generalize (wr.alloc (.cells #[.int .u8 0, .int .u8 0, .int .u8 0, .int .u8 0, .int .u8 0, .int .u8 0, .int .u8 0, .int .u8 0, .int .u8 0, .int .u8 0, .int .u8 0, .int .u8 0, .int .u8 0, .int .u8 0, .int .u8 0, .int .u8 0] 78)).setCells wr.heap.size 0 (K.map uv) = w2 at KNB B2 Z2 hb2
      obtain ⟨p, hp⟩ : ∃ p, wr.heap.size = p := ⟨_, rfl⟩
      rw [hp] at KNB ⊢
      clear HNB HNT hp hzb hbl hzl B Z1 hb HRG
      have hbs := build_size K
      have hkl := HKL.out
      have HBR := Lib.hid (build_rnd gb HKL.out)
      go_upto_region 5 with (refine wpList_load_row rfl _ _ rfl _ rfl _ _ _ _ KNB.out Try.underlying78 rfl (glen HKL.out) ?_)
      rw [HBR.out]
      have hbl := B2.out.lt
      have hzl := Z2.out.lt
      have R3 := Lib.hid (Blk.new w2 108 (rnd K gb))
      have B3 := Lib.hid (B2.out.alloc (.cells (rnd K gb) 108))
      have Z3 := Lib.hid (Z2.out.alloc (.cells (rnd K gb) 108))
      have hb3 := ba hb2 (.cells (rnd K gb) 108)
      obtain ⟨r, hr⟩ : ∃ r, w2.heap.size = r := ⟨_, rfl⟩
      rw [hr] at R3 hbl hzl ⊢
      generalize w2.alloc (.cells (rnd K gb) 108) = w3 at R3 B3 Z3 hb3
      have hwl : Hid (IntKind.i64.wrap (last : Int) = (last : Int)) := Lib.hid (by rw [IntKind.wrap_i64]; omega)
      clear hr KNB B2 Z2 hb2 hbs HBR w2 hkl
      go_wp2_with fail
      refine (HST.out _).mono ?_
      rintro e w4 ⟨gf, rfl, hgf, hFB, hb4⟩
      have R4 := Lib.hid (R3.out.below hb4)
      have B4 := Lib.hid (B3.out.below hb4)
      have Z4 := Lib.hid (Z3.out.below hb4)
      have F4 := Lib.hid hFB
      have hB4 := bt hb3 hb4
      have hgw : w.heap.size < gf := by have := B3.out.lt; omega
      have HT0 : Hid (applyF K (fs.take 0) s = s) := Lib.hid rfl
      have HFC := Lib.hid (fcell_at fs)
      have HAT := Lib.hid (applyF_take K fs s)
      have HAL := Lib.hid (fun k => applyF_len K (fs.take k) s HSL.out)
      have HALL : Hid (applyF K (fs.take fs.length) s = applyF K fs s) := Lib.hid (by rw [List.take_of_length_le (Nat.le_refl _)])
      rw [← HT0.out] at B4
      obtain ⟨n, hn⟩ : ∃ n, fs.length = n := ⟨_, rfl⟩
      rw [hn] at HFC HAT HFM HALL hfl
      rw [hn]
      clear hn hFB hb4 hb3 R3 B3 Z3 hgf HST
      go_wp2_with fail
      go_loopw [29] (fun kv wx => ∃ k : Nat, k ≤ n ∧ kv = .int .i64 k ∧ Hid (Blk wx (w.heap.size + 1) 78 (Z.map uv).toArray) ∧ Hid (Blk wx w.heap.size 78 ((applyF K (fs.take k) s).map uv).toArray) ∧ Hid (Blk wx r 108 (rnd K gb)) ∧ Hid (Blk wx gf 112 (fs.map fcell).toArray) ∧ Below w.heap.size w wx) (fun kv _ => n - (intOf kv).toNat)
      case atStart => exact ⟨0, Nat.zero_le _, rfl, Z4, B4, R4, F4, hB4⟩
      case round =>
        clear Z4 B4 R4 F4 hB4
        obtain ⟨k, hk, rfl, Z5, B5, R5, F5, hb5⟩ := hrel
        by_cases hkn : k < n
        · have hki : (k : Int) < (n : Int) := by omega
          have k0 : (0 : Int) ≤ (k : Int) := by omega
          have hcf : wr.cell? ⟨gf, k, none⟩ = some (.func (.func (fs.getD k 0)) #[] #[]) := (F5.out.cell k).trans (HFC.out k hkn)
          have HFX := Lib.hid (fun (S : List UInt8) (hS : S.length = 16) (W : World) (hW : Blk W r 108 (rnd K gb)) (hWx : Blk W gb 5 bxs) => fcall_any (fs.getD k 0) (HFM.out k hkn) S K r gb W hS HKL.out hW hWx)
          have HAK := HAT.out k hkn
          have HSK := Lib.hid (HAL.out k)
          have HSN := Lib.hid (HAL.out (k + 1))
          have hfm := HFM.out k hkn
          generalize fs.getD k 0 = f at hcf HFX HAK hfm
          generalize applyF K (fs.take k) s = S at B5 HAK HSK
          have HFS := Lib.hid (HFX.out S HSK.out)
          rw [← HAK] at HFS
          obtain ⟨S', hS'⟩ : ∃ S', applyF K (fs.take (k + 1)) s = S' := ⟨_, rfl⟩
          rw [hS'] at HFS HSN
          have HS' := Lib.hid hS'
          clear hS' HAK HFX
          rcases hfm with rfl | rfl | rfl | rfl
          all_goals
            go_upto_region 8 with fail
            go_wp2_with (refine wpList_load_row rfl _ _ rfl _ rfl _ _ _ _ B5.out Try.underlying78 rfl (glen HSK.out) ?_)
            refine (HFS.out _ R5.out (HX.out.below hb5)).mono ?_
            rintro e w6 ⟨rfl, hb6⟩
            have B6 := Lib.hid (B5.out.below hb6)
            have hbl6 := B6.out.lt
            have HT6 := Lib.hid (gthere (M := S') B6.out HSK.out HSN.out)
            have B7 : Hid (Blk (w6.setCells w.heap.size 0 (S'.map uv)) w.heap.size 78 (S'.map uv).toArray) := Lib.hid (B6.out.whole (S'.map uv) (by rw [List.length_map, uvs_size, HSK.out, HSN.out]))
            have Z7 := Lib.hid ((Z5.out.below hb6).far_ (g := w.heap.size) (by omega) 0 (S'.map uv))
            have R7 := Lib.hid ((R5.out.below hb6).far_ (g := w.heap.size) (by omega) 0 (S'.map uv))
            have F7 := Lib.hid ((F5.out.below hb6).far_ (g := w.heap.size) (by omega) 0 (S'.map uv))
            have hb7 := bw (bt hb5 hb6) (g := w.heap.size) (Nat.le_refl _) 0 (S'.map uv)
            clear B5 Z5 R5 F5 hb5 hb6 hcf
            simp only []
            go_upto_region 9 with (refine wpList_store_mid rfl _ _ _ rfl w.heap.size 0 (S'.map uv).toArray rfl rfl HT6.out (glen HSN.out) (all_oneCell_toArray (uvs_one S')) ?_)
            generalize w6.setCells w.heap.size 0 (S'.map uv) = w7 at B7 Z7 R7 F7 hb7
            rw [← HS'.out] at B7
            clear HT6 B6
            go_wp2_with fail
            exact ⟨⟨k + 1, by omega, by go_num, Z7, B7, R7, F7, hb7⟩, by simp [intOf]; omega⟩
        · obtain rfl : k = n := by omega
          rw [HALL.out, ← HES1.out] at B5
          go_wp2_with fail
          exact ⟨⟨i + 1, by omega, by go_num, Z5, B5, hb5⟩, by simp [intOf]; omega⟩
    · obtain rfl : i = rounds := by omega
      rw [HNE.out] at B
      have HONE := Lib.hid (uvs_one N)
      go_wp2_with (first | (refine wpList_load_row rfl _ _ rfl _ rfl _ _ _ _ B.out Try.underlying78 rfl (glen HNN.out) ?_) | (refine wpList_store_mid rfl _ _ _ rfl _ _ (N.map uv).toArray rfl rfl (gthere Z1.out HZ.out HNN.out) (glen HNN.out) (all_oneCell_toArray HONE.out) ?_))
      have hW := Z1.out.whole (N.map uv) (by rw [List.length_map, uvs_size, HNN.out, HZ.out])
      refine bodyPost_ret (v := .agg (N.map uv).toArray) (results_cell_row rfl _ _ _ _ _ _ _ rfl hW Try.underlying78 rfl (glen HNN.out)) rfl ?_
      exact ⟨rfl, bw hb (by omega) _ _⟩
end Go.Proofs.Ytcecjoodlmpgnaa
/- The contract of Encrypt. -/
namespace Go.Proofs.Ytcecjoodlmpgnaa
open Go.RowKit

theorem encL_len (key l : List UInt8) (h : l.length = 16) : (encL key l).length = 16 := encN_len _ _ _ h _

set_option maxRecDepth 100000 in
set_option maxHeartbeats 1000000 in
theorem enc_yes (key l : List UInt8) (w : World) (hk : key.length = 16 ∨ key.length = 32) (hl : l.length = 16) :
    Calls Try.prog 29 #[.string ⟨key.toArray⟩, .string ⟨l.toArray⟩] w fun e w' => e = .returned (.tuple #[.string ⟨(encL key l).toArray⟩, .int .i64 0]) ∧ Below w.heap.size w w' := by
  have H1 := Lib.hid (isKey_yes key w hk)
  have H2 := Lib.hid (isBlock_yes l w hl)
  have H3 := Lib.hid (boxes_any w)
  have H4 := Lib.hid (fun W => gridOf_any l W hl)
  have H5 := Lib.hid (fun gb W hx => roundKeys_any key (key.length / 4 + 7) gb W hx hk rfl)
  have H6 := Lib.hid (fun gk gb W h1 h2 => encrypted_any l (keysF key) gk gb (key.length / 4 + 7) (key.length / 4 + 6) W hl (by rw [keysF_len key hk, Nat.mul_comm]) (by omega) rfl h1 h2)
  have H7 := Lib.hid (fun W => told_any (encL key l) W (encL_len key l hl))
  have HE : Hid (encN (key.length / 4 + 6) (keysF key) l (key.length / 4 + 7) = encL key l) := Lib.hid rfl
  rw [HE.out] at H6
  generalize encL key l = E at H6 H7 ⊢
  clear HE hk hl
  go_enter Try.func29, Try.ntmps29
  go_wp2_with fail
  refine H1.out.mono ?_
  rintro e w0 ⟨rfl, rfl⟩
  go_wp2_with fail
  refine H2.out.mono ?_
  rintro e w0 ⟨rfl, rfl⟩
  go_wp2_with fail
  refine H3.out.mono ?_
  rintro e w1 ⟨gb, rfl, hg, hB, hb1⟩
  have HB := Lib.hid hB
  clear hB
  go_wp2_with fail
  refine (H4.out _).mono ?_
  rintro e w2 ⟨rfl, hb2⟩
  have HB2 := Lib.hid (HB.out.below hb2)
  have hB2 := bt hb1 hb2
  clear hb1 hb2 HB
  go_wp2_with fail
  refine (H5.out _ _ HB2.out).mono ?_
  rintro e w3 ⟨gk, rfl, hgk, hK, hb3⟩
  have HK := Lib.hid hK
  have HB3 := Lib.hid (HB2.out.below hb3)
  have hB3 := bt hB2 hb3
  clear hb3 HB2 hB2 hK
  go_wp2_with fail
  refine (H6.out _ _ _ HK.out HB3.out).mono ?_
  rintro e w4 ⟨rfl, hb4⟩
  go_wp2_with fail
  refine (H7.out _).mono ?_
  rintro e w5 ⟨rfl, hb5⟩
  go_wp2_with fail
  go_ret2
  exact ⟨rfl, bt (bt hB3 hb4) hb5⟩
set_option maxRecDepth 100000 in
set_option maxHeartbeats 1000000 in
theorem enc_no (key l : List UInt8) (w : World) (h : ¬ ((key.length = 16 ∨ key.length = 32) ∧ l.length = 16)) :
    Calls Try.prog 29 #[.string ⟨key.toArray⟩, .string ⟨l.toArray⟩] w fun e w' => e = .returned (.tuple #[.string ⟨#[]⟩, .int .i64 4]) ∧ Below w.heap.size w w' := by
  by_cases hk : key.length = 16 ∨ key.length = 32
  · have H1 := Lib.hid (isKey_yes key w hk)
    have H2 := Lib.hid (isBlock_no l w (fun hl => h ⟨hk, hl⟩))
    clear h hk
    go_enter Try.func29, Try.ntmps29
    go_wp2_with fail
    refine H1.out.mono ?_
    rintro e w0 ⟨rfl, rfl⟩
    go_wp2_with fail
    refine H2.out.mono ?_
    rintro e w0 ⟨rfl, rfl⟩
    go_wp2_with fail
    go_ret2
    exact ⟨rfl, Below.refl _ _⟩
  · have H1 := Lib.hid (isKey_no key w hk)
    clear h hk
    go_enter Try.func29, Try.ntmps29
    go_wp2_with fail
    refine H1.out.mono ?_
    rintro e w0 ⟨rfl, rfl⟩
    go_wp2_with fail
    go_ret2
    exact ⟨rfl, Below.refl _ _⟩
end Go.Proofs.Ytcecjoodlmpgnaa
