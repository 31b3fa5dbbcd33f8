/- Texts of this seat, one behind the other: ARKey, AGrid, AGridM, AGBox, AGTurn. -/
import Derived.Test.YtcecjoodlmpgnaaGreatQ15
/- The contract of roundKeys: a key's round keys, one behind the other. -/
namespace Go.Proofs.YtcecjoodlmpgnaaGreat
open Go.RowKit

set_option maxRecDepth 100000 in
set_option maxHeartbeats 4000000 in
theorem roundKeys_any (key : List UInt8) (rounds gb : Nat) (w : World) (hx : Blk w gb 5 bxs) (hk : key.length = 16 ∨ key.length = 32) (hm : key.length / 4 + 7 = rounds) :
    Calls Tryz.prog 59 #[.string ⟨key.toArray⟩, .slice (some ⟨gb, 0, none⟩) 256 256] w fun e w' => ∃ g, e = .returned (.slice (some ⟨g, 0, none⟩) rounds rounds) ∧ w.heap.size ≤ g ∧ Blk w' g 91 ((keysF key).map uv).toArray ∧ Below w.heap.size w w' := by
  have HKW := Lib.hid (keyWords_any key (key.length / 4) (4 * rounds) gb w hx hk rfl (by omega))
  have HMK := Lib.hid (fun W => make_grids rounds (by omega) W)
  have HN : Hid ((keysF key).length = rounds * 16) := Lib.hid (by rw [keysF_len key hk]; omega)
  have HZ := Lib.hid (zerosL_len (rounds * 16))
  have HO : Hid (rounds ≤ 15) := Lib.hid (by omega)
  have hsz := size_of key
  obtain ⟨l, hl⟩ : ∃ l, key.length = l := ⟨_, rfl⟩
  rw [hl] at hsz hm
  have hq1 : (l : Int) / 4 + 7 = (rounds : Int) := by omega
  have hq2 : (rounds : Int) * 4 = ((4 * rounds : Nat) : Int) := by omega
  have hq3 : (rounds : Int) ≤ 15 := by omega
  have hq4 : (l : Int) ≤ 32 := by omega
  obtain ⟨many, hmany⟩ : ∃ m, 4 * rounds = m := ⟨_, rfl⟩
  rw [hmany] at HKW hq2
  obtain ⟨N, hN⟩ : ∃ N, keysF key = N := ⟨_, rfl⟩
  rw [hN] at HN HKW ⊢
  have H0 : Hid (((zerosL (rounds * 16)).map uv).toArray = ((cutL (0 * 16) N (zerosL (rounds * 16))).map uv).toArray) := Lib.hid (by rw [Nat.zero_mul, cutL_zero])
  obtain ⟨Z, hZ⟩ : ∃ Z, zerosL (rounds * 16) = Z := ⟨_, rfl⟩
  rw [hZ] at HMK HZ H0
  have HMM := Lib.hid hmany
  clear hN hZ hk hx hl hm hmany
  go_enter Tryz.func59, Tryz.ntmps59
  go_wp2_with fail
  refine HKW.out.mono ?_
  rintro e w1 ⟨q, rfl, hq, hQ, hb1⟩
  have hmk := HMK.out w1
  have BN := Lib.hid (Blk.new w1 91 (Z.map uv).toArray)
  have HQ := Lib.hid (hQ.alloc (.cells (Z.map uv).toArray 91))
  have hbN := ba hb1 (.cells (Z.map uv).toArray 91)
  have z1 := hb1.size
  have hqlt := hQ.lt
  obtain ⟨p, hp⟩ : ∃ p, w1.heap.size = p := ⟨_, rfl⟩
  rw [hp] at BN z1 hqlt hmk
  generalize w1.alloc (.cells (Z.map uv).toArray 91) = w2 at hmk BN HQ hbN
  rw [H0.out] at BN
  clear hQ hb1 hp HKW H0
  go_wp2_with fail
  go_loopw [22] (fun iv wr => ∃ i : Nat, i ≤ rounds ∧ iv = .int .i64 i ∧ Hid (Blk wr p 91 ((cutL (i * 16) N Z).map uv).toArray) ∧ Hid (Blk wr q 89 (N.map uv).toArray) ∧ Below w.heap.size w wr) (fun iv _ => rounds - (intOf iv).toNat)
  case atStart => exact ⟨0, Nat.zero_le _, rfl, BN, HQ, hbN⟩
  case round =>
    clear BN HQ hbN hmk
    obtain ⟨i, hi, rfl, B, Q, hb⟩ := hrel
    by_cases hlt : i < rounds
    · have hir : (i : Int) < (rounds : Int) := by omega
      have i0 : (0 : Int) ≤ (i : Int) := by omega
      obtain ⟨s, hs⟩ : ∃ s : Nat, i * 4 = s := ⟨_, rfl⟩
      have his : (i : Int) * 4 = (s : Int) := by omega
      have hsm : (s : Int) ≤ (many : Int) := by have := HMM.out; omega
      have s0 : (0 : Int) ≤ (s : Int) := by omega
      have HWS : Hid (IntKind.i64.wrap (s : Int) = (s : Int)) := Lib.hid (by rw [IntKind.wrap_i64]; have := HMM.out; omega)
      obtain ⟨m, hm⟩ : ∃ m : Nat, many - s = m := ⟨_, rfl⟩
      have hms : (many : Int) - (s : Int) = (m : Int) := by omega
      have HCP := Lib.hid (copy_words wr.drew p (i * 16) q (s * 4) m m N _ _ _ B.out.drew Q.out.drew (by have := HMM.out; omega) (by rw [HN.out]; omega) (by rw [uvs_size, cutL_len HN.out HZ.out (by omega)]; omega))
      have hs16 : s * 4 = i * 16 := by omega
      rw [hs16, cut_copy HN.out HZ.out (by omega)] at HCP
      have HB2 := Lib.hid (B.out.drew.setRow ((cutL (i * 16 + 16) N Z).map uv).toArray)
      have HQ2 := Lib.hid (Q.out.drew.setRow_far (g := p) (by omega) ((cutL (i * 16 + 16) N Z).map uv).toArray)
      have hb2 := below_setRow hb.drew (g := p) (by omega) ((cutL (i * 16 + 16) N Z).map uv).toArray
      have hq16 : i * 16 + 16 = (i + 1) * 16 := by omega
      rw [hq16] at HCP HB2 HQ2 hb2
      have HS16 := Lib.hid hs16
      have hne : ¬ many = s := by have := HMM.out; omega
      go_wp2_with fail
      refine wp_region_held_drew (S := fun _ => True) (by kernel_rfl) trivial (fun hHeld => ?_)
      refine wpAnyH_take (i := 0) (oi := ⟨some 25, _, _, _, _, _⟩) (v := ?_) rfl (by kernel_rfl) (by kernel_rfl) (by kernel_rfl) (fun _ _ _ h => h) (Or.inl ⟨by rfl, ?_⟩) (by assumption) ?_
      rotate_left
      · (intro w9 hSw; (try dsimp only at hSw); go_simp; try with_reducible rfl)
      try simp only [Act.put, List.setIfInBounds_toArray, List.set_cons_zero, List.set_cons_succ]
      refine wpAnyH_take (i := 1) (oi := ⟨some 26, _, _, _, _, _⟩) (v := ?_) rfl (by kernel_rfl) (by kernel_rfl) (by kernel_rfl) (fun _ _ _ h => h) (Or.inl ⟨by rfl, ?_⟩) (by assumption) ?_
      rotate_left
      · (intro w9 hSw; (try dsimp only at hSw); go_simp; try with_reducible rfl)
      try simp only [Act.put, List.setIfInBounds_toArray, List.set_cons_zero, List.set_cons_succ]
      refine wpAnyH_take (i := 2) (oi := ⟨some 27, _, _, _, _, _⟩) (v := .pointer (some ⟨p, i * 16, none⟩)) rfl (by kernel_rfl) (by kernel_rfl) (by kernel_rfl) (fun _ _ _ h => h) (Or.inl ⟨by rfl, ?_⟩) (by assumption) ?_
      · (intro w9 hSw; (try dsimp only at hSw); go_simp)
      try simp only [Act.put, List.setIfInBounds_toArray, List.set_cons_zero, List.set_cons_succ]
      refine wpAnyH_take (i := 3) (oi := ⟨some 28, _, _, _, _, _⟩) (v := .slice (some ⟨p, i * 16, none⟩) 4 4) rfl (by kernel_rfl) (by kernel_rfl) (by kernel_rfl) (fun _ _ _ h => h) (Or.inl ⟨by rfl, ?_⟩) (by assumption) ?_
      · (intro w9 hSw; (try dsimp only at hSw); go_simp)
      try simp only [Act.put, List.setIfInBounds_toArray, List.set_cons_zero, List.set_cons_succ]
      refine wpAnyH_take (i := 4) (oi := ⟨some 29, _, _, _, _, _⟩) (v := ?_) rfl (by kernel_rfl) (by kernel_rfl) (by kernel_rfl) (fun _ _ _ h => h) (Or.inl ⟨by rfl, ?_⟩) (by assumption) ?_
      rotate_left
      · (intro w9 hSw; (try dsimp only at hSw); go_simp; try with_reducible rfl)
      try simp only [Act.put, List.setIfInBounds_toArray, List.set_cons_zero, List.set_cons_succ]
      refine wpAnyH_take (i := 5) (oi := ⟨some 30, _, _, _, _, _⟩) (v := ?_) rfl (by kernel_rfl) (by kernel_rfl) (by kernel_rfl) (fun _ _ _ h => h) (Or.inl ⟨by rfl, ?_⟩) (by assumption) ?_
      rotate_left
      · (intro w9 hSw; (try dsimp only at hSw); go_simp; try with_reducible rfl)
      try simp only [Act.put, List.setIfInBounds_toArray, List.set_cons_zero, List.set_cons_succ]
      refine wpAnyH_take (i := 6) (oi := ⟨some 31, _, _, _, _, _⟩) (v := .int .i64 (s : Int)) rfl (by kernel_rfl) (by kernel_rfl) (by kernel_rfl) (fun _ _ _ h => h) (Or.inl ⟨by rfl, ?_⟩) (by assumption) ?_
      · (intro w9 hSw; (try dsimp only at hSw); go_simp; (try rw [his]); rw [HWS.out])
      try simp only [Act.put, List.setIfInBounds_toArray, List.set_cons_zero, List.set_cons_succ]
      refine wpAnyH_take (i := 7) (oi := ⟨some 32, _, _, _, _, _⟩) (v := .slice (some ⟨q, i * 16, none⟩) m m) rfl (by kernel_rfl) (by kernel_rfl) (by kernel_rfl) (fun _ _ _ h => h) (Or.inl ⟨by rfl, ?_⟩) (by assumption) ?_
      · (intro w9 hSw; (try dsimp only at hSw); go_simp; (try rw [HS16.out]))
      try simp only [Act.put, List.setIfInBounds_toArray, List.set_cons_zero, List.set_cons_succ]
      refine wpAnyH_ready (rs := [8]) (by kernel_rfl) (by simp) ?_
      refine AllReadyH.cons (o := ⟨some 33, _, _, _, _, _⟩) rfl (fun K9 hK9 => ?_) AllReadyH.nil
      have hcp := HCP.out
      go_simp
      refine hK9.out _ _ ?_ (fun hHeld => ?_)
      · trivial
      clear hK9 K9
      try simp only [Act.put, List.setIfInBounds_toArray, List.set_cons_zero, List.set_cons_succ]
      refine wpAnyH_done (by kernel_rfl) ?_ _
      go_wp2_with fail
      exact ⟨⟨i + 1, by omega, by go_num, HB2, HQ2, hb2⟩, by simp [intOf]; omega⟩
    · obtain rfl : i = rounds := by omega
      have hB := B.out
      rw [cutL_all HN.out HZ.out] at hB
      have HBN := Lib.hid hB
      clear hB B
      go_wp2_with fail
      go_ret
      exact ⟨_, rfl, z1, HBN.out, hb⟩
end Go.Proofs.YtcecjoodlmpgnaaGreat
/- A block's columns; the contracts of gridOf and of a grid's mixed. -/
namespace Go.Proofs.YtcecjoodlmpgnaaGreat
open Go.RowKit

theorem list16 {L : List UInt8} (h : L.length = 16) : ∃ a b c d e f g h i j k l m n o p, L = [a, b, c, d, e, f, g, h, i, j, k, l, m, n, o, p] := by
  match L, h with
  | [a, b, c, d, e, f, g, h, i, j, k, l, m, n, o, p], _ => exact ⟨a, b, c, d, e, f, g, h, i, j, k, l, m, n, o, p, rfl⟩
theorem gcol_at (G : List UInt8) (hG : G.length = 16) (c : Nat) (hc : c < 4) (W : World) : (Instr.index 91 (.agg (G.map uv).toArray) (.int .i64 (c : Int))).run Tryz.prog W = .ok (.agg #[uv (ub G (c * 4)), uv (ub G (c * 4 + 1)), uv (ub G (c * 4 + 2)), uv (ub G (c * 4 + 3))]) W := by
  obtain ⟨g0, g1, g2, g3, g4, g5, g6, g7, g8, g9, g10, g11, g12, g13, g14, g15, rfl⟩ := list16 hG
  obtain rfl | rfl | rfl | rfl : c = 0 ∨ c = 1 ∨ c = 2 ∨ c = 3 := by omega
  all_goals kernel_rfl
theorem glen {L : List UInt8} (h : L.length = 16) : (Tryz.prog.info? 91).map (·.size) = some ((L.map uv).toArray).size := by
  rw [List.size_toArray, List.length_map, h]; kernel_rfl
theorem gzero : #[.int .u8 0, .int .u8 0, .int .u8 0, .int .u8 0, .int .u8 0, .int .u8 0, .int .u8 0, .int .u8 0, .int .u8 0, .int .u8 0, .int .u8 0, .int .u8 0, .int .u8 0, .int .u8 0, .int .u8 0, .int .u8 0] = ((zerosL 16).map uv).toArray := by kernel_rfl
theorem gthere {w : World} {g : Nat} {t : TypeId} {L M : List UInt8} (h : Blk w g t (L.map uv).toArray) (hl : L.length = 16) (hm : M.length = 16) : w.there g 0 (M.map uv).toArray.size := h.there (by rw [uvs_size, uvs_size, hl, hm]; exact Nat.le_refl _)
theorem put4' {w : World} {g : Nat} {t : TypeId} {N M : List UInt8} {n k : Nat} {a b c d : UInt8} (h : Blk w g t ((cutL k N M).map uv).toArray) (hn : N.length = n) (hm : M.length = n) (hk : k + 4 ≤ n)
    (e : [a, b, c, d] = [ub N k, ub N (k + 1), ub N (k + 2), ub N (k + 3)]) : Blk (w.setCells g k [uv a, uv b, uv c, uv d]) g t ((cutL (k + 4) N M).map uv).toArray := by
  simp only [List.cons.injEq] at e
  obtain ⟨rfl, rfl, rfl, rfl, -⟩ := e
  exact put4 h hn hm hk

set_option maxRecDepth 100000 in
set_option maxHeartbeats 1000000 in
theorem gridOf_any (l : List UInt8) (w : World) (hl : l.length = 16) :
    Calls Tryz.prog 57 #[.string ⟨l.toArray⟩] w fun e w' => e = .returned (.agg (l.map uv).toArray) ∧ Below w.heap.size w w' := by
  have HL := Lib.hid hl
  have HZ := Lib.hid (zerosL_len 16)
  have HE := Lib.hid (fun c => extract_drop l c 16 hl)
  have hsz := size_of l
  rw [hl] at hsz
  have H0 : Hid (((zerosL 16).map uv).toArray = ((cutL (0 * 4) l (zerosL 16)).map uv).toArray) := Lib.hid (by rw [Nat.zero_mul, cutL_zero])
  have HG := Lib.hid gzero
  obtain ⟨Z, hZ⟩ : ∃ Z, zerosL 16 = Z := ⟨_, rfl⟩
  rw [hZ] at HZ H0 HG
  clear hZ hl
  go_enter Tryz.func57, Tryz.ntmps57
  go_wp2_with fail
  rw [HG.out]
  have R0 := Lib.hid ((Blk.new w 91 (Z.map uv).toArray).alloc (.cells (Z.map uv).toArray 91))
  have B0 : Hid (Blk ((w.alloc (.cells (Z.map uv).toArray 91)).alloc (.cells (Z.map uv).toArray 91)) (w.heap.size + 1) 91 (Z.map uv).toArray) := Lib.hid (Blk.newAt (by simp) _ _)
  have hb0 := ba (ba (Below.refl w.heap.size w) (.cells (Z.map uv).toArray 91)) (.cells (Z.map uv).toArray 91)
  generalize (w.alloc (.cells (Z.map uv).toArray 91)).alloc (.cells (Z.map uv).toArray 91) = w1 at R0 B0 hb0
  rw [H0.out] at B0
  go_loopw [5] (fun iv wr => ∃ i : Nat, i ≤ 4 ∧ iv = .int .i64 i ∧ Hid (Blk wr w.heap.size 91 (Z.map uv).toArray) ∧ Hid (Blk wr (w.heap.size + 1) 91 ((cutL (i * 4) l Z).map uv).toArray) ∧ Below w.heap.size w wr) (fun iv _ => 4 - (intOf iv).toNat)
  case atStart => exact ⟨0, Nat.zero_le _, rfl, R0, B0, hb0⟩
  case round =>
    clear R0 B0 hb0
    obtain ⟨c, hc, rfl, R, B, hb⟩ := hrel
    by_cases hlt : c < 4
    · have hcl : (c : Int) < 4 := by omega
      obtain ⟨s, hs⟩ : ∃ s : Nat, c * 4 = s := ⟨_, rfl⟩
      have hcs : (c : Int) * 4 = (s : Int) := by omega
      have hs2 : (s : Int) ≤ 16 := by omega
      have hex := HE.out s
      have HWO := Lib.hid (fun W => wordOf_any (l.drop (c * 4)) W (by rw [List.length_drop, HL.out]; omega))
      rw [ub_drop, ub_drop, ub_drop, ub_drop] at HWO
      have HP := Lib.hid (fun (W : World) (t : TypeId) (hB : Blk W (w.heap.size + 1) t ((cutL (c * 4) l Z).map uv).toArray) => put4 hB HL.out HZ.out (by omega))
      rw [Nat.add_zero] at HWO
      generalize ub l (c * 4) = n0 at HWO HP
      generalize ub l (c * 4 + 1) = n1 at HWO HP
      generalize ub l (c * 4 + 2) = n2 at HWO HP
      generalize ub l (c * 4 + 3) = n3 at HWO HP
      have HSE : Hid (c * 4 + 4 = (c + 1) * 4) := Lib.hid (by omega)
      have HLC : Hid ((cutL (c * 4) l Z).length = 16) := Lib.hid (cutL_len HL.out HZ.out (by omega))
      rw [hs] at HWO
      clear hs
      go_wp2_with fail
      refine (HWO.out _).mono ?_
      rintro e w2 ⟨rfl, hb2⟩
      have B2 := Lib.hid (B.out.below hb2)
      have R2 := Lib.hid (R.out.below hb2)
      have hB2 := bt hb hb2
      clear B R hb hb2 hex
      have hz := hB2.size
      have HTH : Hid (w2.there (w.heap.size + 1) (c * 4) (([n0, n1, n2, n3].map uv).toArray).size) := Lib.hid (B2.out.spare (by rw [uvs_size, uvs_size, HLC.out]; simp; omega))
      simp only []
      have B3 := Lib.hid (HP.out _ _ B2.out)
      have R3 := Lib.hid (R2.out.far_ (k := w.heap.size) (g := w.heap.size + 1) (by omega) (c * 4) [uv n0, uv n1, uv n2, uv n3])
      have hb3 := bw hB2 (g := w.heap.size + 1) (by omega) (c * 4) [uv n0, uv n1, uv n2, uv n3]
      rw [HSE.out] at B3
      go_upto_region 6 with (refine wpList_store_mid rfl _ _ _ rfl (w.heap.size + 1) (c * 4) ([n0, n1, n2, n3].map uv).toArray rfl rfl HTH.out (by kernel_rfl) (all_oneCell_toArray (uvs_one [n0, n1, n2, n3])) ?_)
      have hset : w2.setCells (w.heap.size + 1) (c * 4) [uv n0, uv n1, uv n2, uv n3] = w2.setCells (w.heap.size + 1) (c * 4) ([n0, n1, n2, n3].map uv) := rfl
      rw [hset] at B3 R3 hb3
      generalize w2.setCells (w.heap.size + 1) (c * 4) ([n0, n1, n2, n3].map uv) = w3 at B3 R3 hb3
      clear hset HTH B2 R2 hB2
      go_wp2_with fail
      exact ⟨⟨c + 1, by omega, by go_num, R3, B3, hb3⟩, by simp [intOf]; omega⟩
    · obtain rfl : c = 4 := by omega
      have hB := B.out
      rw [show 4 * 4 = 16 from rfl, cutL_all HL.out HZ.out] at hB
      have HBN := Lib.hid hB
      have HONE := Lib.hid (uvs_one l)
      clear hB B
      go_wp2_with (first | (refine wpList_load_row rfl _ _ rfl _ rfl _ _ _ _ HBN.out Tryz.underlying91 rfl (glen HL.out) ?_) | (refine wpList_store_mid rfl _ _ _ rfl _ _ (l.map uv).toArray rfl rfl (gthere R.out HZ.out HL.out) (glen HL.out) (all_oneCell_toArray HONE.out) ?_))
      have hW := R.out.whole (l.map uv) (by rw [List.length_map, uvs_size, HL.out, HZ.out])
      refine bodyPost_ret (v := .agg (l.map uv).toArray) (results_cell_row rfl _ _ _ _ _ _ _ rfl hW Tryz.underlying91 rfl (glen HL.out)) rfl ?_
      exact ⟨rfl, bw hb (by omega) _ _⟩
end Go.Proofs.YtcecjoodlmpgnaaGreat
/- A block's columns, boxed, mixed, and with a key's: in plain lists. -/
namespace Go.Proofs.YtcecjoodlmpgnaaGreat

theorem col_of {F : List UInt8} (c : Nat) : colG F c = [ub F (c * 4), ub F (c * 4 + 1), ub F (c * 4 + 2), ub F (c * 4 + 3)] := by rw [colG_four, Nat.mul_comm]
theorem four_of {L N : List UInt8} {c : Nat} (hl : L.length = 4) (h : ∀ r, r < 4 → ub L r = ub N (c * 4 + r)) : L = [ub N (c * 4), ub N (c * 4 + 1), ub N (c * 4 + 2), ub N (c * 4 + 3)] := by
  obtain ⟨a, b, d, e, rfl⟩ := four_list hl
  have h0 := h 0 (by omega)
  have h1 := h 1 (by omega)
  have h2 := h 2 (by omega)
  have h3 := h 3 (by omega)
  rw [← h1, ← h2, ← h3, show c * 4 = c * 4 + 0 by omega, ← h0]
  rfl
theorem mixG_col (G : List UInt8) (c : Nat) (hc : c < 4) : mixW [ub G (c * 4), ub G (c * 4 + 1), ub G (c * 4 + 2), ub G (c * 4 + 3)] = [ub (mixG G) (c * 4), ub (mixG G) (c * 4 + 1), ub (mixG G) (c * 4 + 2), ub (mixG G) (c * 4 + 3)] := by
  rw [← col_of]
  refine four_of (tab_len _ _) fun r hr => ?_
  unfold mixG
  rw [ub_tab _ (by omega), show (c * 4 + r) / 4 = c by omega, show (c * 4 + r) % 4 = r by omega]
theorem boxG_col (G : List UInt8) (c : Nat) (hc : c < 4) : boxW [ub G (c * 4), ub G (c * 4 + 1), ub G (c * 4 + 2), ub G (c * 4 + 3)] = [ub (boxG G) (c * 4), ub (boxG G) (c * 4 + 1), ub (boxG G) (c * 4 + 2), ub (boxG G) (c * 4 + 3)] := by
  rw [← col_of]
  refine four_of (tab_len _ _) fun r hr => ?_
  unfold boxG boxW
  rw [ub_tab _ hr, ub_tab _ (by omega), ub_colG _ _ hr, Nat.mul_comm]
theorem keyG_col (G K : List UInt8) (c : Nat) (hc : c < 4) : xorW [ub G (c * 4), ub G (c * 4 + 1), ub G (c * 4 + 2), ub G (c * 4 + 3)] [ub K (c * 4), ub K (c * 4 + 1), ub K (c * 4 + 2), ub K (c * 4 + 3)] = [ub (keyG G K) (c * 4), ub (keyG G K) (c * 4 + 1), ub (keyG G K) (c * 4 + 2), ub (keyG G K) (c * 4 + 3)] := by
  rw [← col_of, ← col_of]
  refine four_of (tab_len _ _) fun r hr => ?_
  unfold keyG xorW
  rw [ub_tab _ hr, ub_tab _ (by omega), ub_colG _ _ hr, ub_colG _ _ hr, Nat.mul_comm]
open Go.RowKit in
/-- A whole array stored, as one step of a region that draws. -/
theorem step_store_mid {P : Program} {ops : Array Oper} {o : Oper} {a : Act} {w : World} {K : Act → World → Prop} {Q : Exit → Act → World → Prop} {E : Prop} (hg : o.guard = none) (ty : TypeId) (x y : Operand) (ho : o.op = .store ty x y)
    (b off : Nat) (cells : Array Value) (hx : a.eval x = .pointer (some ⟨b, off, none⟩)) (hy : a.eval y = .agg cells)
    (ht : w.there b off cells.size) (hi : (P.info? ty).map (·.size) = some cells.size) (h1 : cells.all (·.oneCell') = true)
    (h : K (a.put o.dst undef) (w.setCells b off cells.toList)) : if Region.wanted o (yielded ops a.tmps) = true then Oper.wp P o a w K Q else E := by
  rw [if_pos (by simp [Region.wanted, hg])]
  exact wp_store_mid ty x y ho b off cells hx hy ht hi h1 h
/-- A round's cells: its key, and the boxes. -/
def rnd (K : List UInt8) (gb : Nat) : Array Value := (K.map uv ++ [Value.slice (some ⟨gb, 0, none⟩) 256 256]).toArray
theorem rnd_box {K : List UInt8} (gb : Nat) (h : K.length = 16) : (rnd K gb)[16]? = some (.slice (some ⟨gb, 0, none⟩) 256 256) := by simp [rnd, h]
theorem rnd_key {K : List UInt8} (gb : Nat) (h : K.length = 16) {i : Nat} (hi : i < 16) : (rnd K gb)[i]? = some (uv (ub K i)) := by
  rw [ub_at (by omega)]
  unfold rnd
  rw [List.getElem?_toArray, List.getElem?_append_left (by rw [List.length_map, h]; exact hi)]
  simp [h, hi]
end Go.Proofs.YtcecjoodlmpgnaaGreat
/- The contract of a grid's boxed. -/
namespace Go.Proofs.YtcecjoodlmpgnaaGreat
open Go.RowKit

set_option maxRecDepth 100000 in
set_option maxHeartbeats 4000000 in
theorem gboxed_any (G : List UInt8) (K : List UInt8) (r gb : Nat) (w : World) (hG : G.length = 16) (hK : K.length = 16) (hr : Blk w r 124 (rnd K gb)) (hx : Blk w gb 5 bxs) :
    Calls Tryz.prog 117 #[.agg (G.map uv).toArray, .pointer (some ⟨r, 0, none⟩)] w fun e w' => e = .returned (.agg ((boxG G).map uv).toArray) ∧ Below w.heap.size w w' := by
  have HG := Lib.hid hG
  have HZ := Lib.hid (zerosL_len 16)
  have HGZ := Lib.hid gzero
  have HN : Hid ((boxG G).length = 16) := Lib.hid (tab_len _ _)
  have HI := Lib.hid (gcol_at G hG)
  have HU : Hid (∀ c, c < 4 → boxW [ub G (c * 4), ub G (c * 4 + 1), ub G (c * 4 + 2), ub G (c * 4 + 3)] = [ub (boxG G) (c * 4), ub (boxG G) (c * 4 + 1), ub (boxG G) (c * 4 + 2), ub (boxG G) (c * 4 + 3)]) := Lib.hid (boxG_col G)
  have HRW := Lib.hid hr
  have HXW := Lib.hid hx
  have HRB := Lib.hid (rnd_box gb hK)
  clear hr hx hK
  obtain ⟨N, hN⟩ : ∃ N, boxG G = N := ⟨_, rfl⟩
  rw [hN] at HN HU ⊢
  have H0 : Hid ((G.map uv).toArray = ((cutL (0 * 4) N G).map uv).toArray) := Lib.hid (by rw [Nat.zero_mul, cutL_zero])
  obtain ⟨Z, hZ⟩ : ∃ Z, zerosL 16 = Z := ⟨_, rfl⟩
  rw [hZ] at HZ HGZ
  clear hZ hN hG
  go_enter Tryz.func117, Tryz.ntmps117
  go_upto_region 1 with fail
  rw [HGZ.out]
  have B0 := Lib.hid ((Blk.new w 91 (G.map uv).toArray).alloc (.cells (Z.map uv).toArray 91))
  have Z0 : Hid (Blk ((w.alloc (.cells (G.map uv).toArray 91)).alloc (.cells (Z.map uv).toArray 91)) (w.heap.size + 1) 91 (Z.map uv).toArray) := Lib.hid (Blk.newAt (by simp) _ _)
  have hb0 := ba (ba (Below.refl w.heap.size w) (.cells (G.map uv).toArray 91)) (.cells (Z.map uv).toArray 91)
  generalize (w.alloc (.cells (G.map uv).toArray 91)).alloc (.cells (Z.map uv).toArray 91) = w1 at B0 Z0 hb0
  go_wp2_with (refine wpList_load_row rfl _ _ rfl _ rfl _ _ _ _ B0.out Tryz.underlying91 rfl (glen HG.out) ?_)
  rw [H0.out] at B0
  go_loopw [8] (fun iv wr => ∃ i : Nat, i ≤ 4 ∧ iv = .int .i64 i ∧ Hid (Blk wr (w.heap.size + 1) 91 (Z.map uv).toArray) ∧ Hid (Blk wr w.heap.size 91 ((cutL (i * 4) N G).map uv).toArray) ∧ Below w.heap.size w wr) (fun iv _ => 4 - (intOf iv).toNat)
  case atStart => exact ⟨0, Nat.zero_le _, rfl, Z0, B0, hb0⟩
  case round =>
    clear Z0 B0 hb0
    obtain ⟨c, hc, rfl, Z1, B, hb⟩ := hrel
    by_cases hlt : c < 4
    · have hcl : (c : Int) < 4 := by omega
      have c0 : (0 : Int) ≤ (c : Int) := by omega
      have hix := HI.out c hlt
      have hu := HU.out c hlt
      have HP := Lib.hid (fun (W : World) (t : TypeId) (hB : Blk W w.heap.size t ((cutL (c * 4) N G).map uv).toArray) => put4 hB HN.out HG.out (by omega))
      have HTH := Lib.hid (fun (W : World) (t : TypeId) (hB : Blk W w.heap.size t ((cutL (c * 4) N G).map uv).toArray) => hB.spare (o := c * 4) (n := 4) (by rw [uvs_size, cutL_len HN.out HG.out (by omega)]; omega))
      have HSE : Hid (c * 4 + 4 = (c + 1) * 4) := Lib.hid (by omega)
      obtain ⟨n0, hn0⟩ : ∃ n, ub N (c * 4) = n := ⟨_, rfl⟩
      obtain ⟨n1, hn1⟩ : ∃ n, ub N (c * 4 + 1) = n := ⟨_, rfl⟩
      obtain ⟨n2, hn2⟩ : ∃ n, ub N (c * 4 + 2) = n := ⟨_, rfl⟩
      obtain ⟨n3, hn3⟩ : ∃ n, ub N (c * 4 + 3) = n := ⟨_, rfl⟩
      rw [hn0, hn1, hn2, hn3] at hu HP
      have HM := Lib.hid (fun W hW => boxed_any (ub G (c * 4)) (ub G (c * 4 + 1)) (ub G (c * 4 + 2)) (ub G (c * 4 + 3)) gb W hW)
      rw [hu] at HM
      clear hu
      generalize ub G (c * 4) = x0 at hix HM
      generalize ub G (c * 4 + 1) = x1 at hix HM
      generalize ub G (c * 4 + 2) = x2 at hix HM
      generalize ub G (c * 4 + 3) = x3 at hix HM
      have hz1 := hb.size
      have hz2 := Z1.out.lt
      clear hn0 hn1 hn2 hn3 hlt hc
      go_wp2_with fail
      have BA := Lib.hid (B.out.alloc (.cells #[uv x0, uv x1, uv x2, uv x3] 89)).drew
      have ZA := Lib.hid (Z1.out.alloc (.cells #[uv x0, uv x1, uv x2, uv x3] 89)).drew
      have hbA := (ba hb (.cells #[uv x0, uv x1, uv x2, uv x3] 89)).drew
      have WA := Lib.hid (Blk.new wr 89 #[uv x0, uv x1, uv x2, uv x3]).drew
      have RA := Lib.hid (((HRW.out.below hb).alloc (.cells #[uv x0, uv x1, uv x2, uv x3] 89))).drew
      have XA := Lib.hid (((HXW.out.below hb).alloc (.cells #[uv x0, uv x1, uv x2, uv x3] 89))).drew
      have zq := B.out.lt
      clear B Z1 hb hix
      refine wp_region_held_drew (S := fun W => Blk W wr.heap.size 89 #[uv x0, uv x1, uv x2, uv x3] ∧ Blk W r 124 (rnd K gb)) (by kernel_rfl) ?_ (fun hHeld => ?_)
      · exact ⟨WA.out, RA.out⟩
      refine wpAnyH_take (i := 0) (oi := ⟨some 12, _, _, _, _, _⟩) (v := ?_) rfl (by kernel_rfl) (by kernel_rfl) (by kernel_rfl) (fun _ _ _ h => h) (Or.inl ⟨by rfl, ?_⟩) (by assumption) ?_
      rotate_left
      · (intro w9 hSw; (try dsimp only at hSw); go_simp; try with_reducible rfl)
      try simp only [Act.put, List.setIfInBounds_toArray, List.set_cons_zero, List.set_cons_succ]
      refine wpAnyH_take (i := 1) (oi := ⟨some 13, _, _, _, _, _⟩) (v := .agg #[uv x0, uv x1, uv x2, uv x3]) rfl (by kernel_rfl) (by kernel_rfl) (by kernel_rfl) (fun _ _ _ h => h) (Or.inl ⟨by rfl, ?_⟩) (by assumption) ?_
      · (intro w9 hSw; have q0 := hSw.1.cell 0; have q1 := hSw.1.cell 1; have q2 := hSw.1.cell 2; have q3 := hSw.1.cell 3; simp only [List.getElem?_toArray, List.getElem?_cons_zero, List.getElem?_cons_succ] at q0 q1 q2 q3; (try dsimp only at hSw); go_simp)
      try simp only [Act.put, List.setIfInBounds_toArray, List.set_cons_zero, List.set_cons_succ]
      refine wpAnyH_take (i := 2) (oi := ⟨some 14, _, _, _, _, _⟩) (v := ?_) rfl (by kernel_rfl) (by kernel_rfl) (by kernel_rfl) (fun _ _ _ h => h) (Or.inl ⟨by rfl, ?_⟩) (by assumption) ?_
      rotate_left
      · (intro w9 hSw; (try dsimp only at hSw); go_simp; try with_reducible rfl)
      try simp only [Act.put, List.setIfInBounds_toArray, List.set_cons_zero, List.set_cons_succ]
      refine wpAnyH_take (i := 3) (oi := ⟨some 15, _, _, _, _, _⟩) (v := ?_) rfl (by kernel_rfl) (by kernel_rfl) (by kernel_rfl) (fun _ _ _ h => h) (Or.inl ⟨by rfl, ?_⟩) (by assumption) ?_
      rotate_left
      · (intro w9 hSw; (try dsimp only at hSw); go_simp; try with_reducible rfl)
      try simp only [Act.put, List.setIfInBounds_toArray, List.set_cons_zero, List.set_cons_succ]
      refine wpAnyH_take (i := 4) (oi := ⟨some 16, _, _, _, _, _⟩) (v := ?_) rfl (by kernel_rfl) (by kernel_rfl) (by kernel_rfl) (fun _ _ _ h => h) (Or.inl ⟨by rfl, ?_⟩) (by assumption) ?_
      rotate_left
      · (intro w9 hSw; (try dsimp only at hSw); go_simp; try with_reducible rfl)
      try simp only [Act.put, List.setIfInBounds_toArray, List.set_cons_zero, List.set_cons_succ]
      refine wpAnyH_take (i := 5) (oi := ⟨some 17, _, _, _, _, _⟩) (v := .slice (some ⟨gb, 0, none⟩) 256 256) rfl (by kernel_rfl) (by kernel_rfl) (by kernel_rfl) (fun _ _ _ h => h) (Or.inl ⟨by rfl, ?_⟩) (by assumption) ?_
      · (intro w9 hSw; have q0 := (hSw.2.cell 16).trans HRB.out; (try dsimp only at hSw); go_simp)
      try simp only [Act.put, List.setIfInBounds_toArray, List.set_cons_zero, List.set_cons_succ]
      refine wpAnyH_ready (rs := [6]) (by kernel_rfl) (by simp) ?_
      refine AllReadyH.cons (o := ⟨some 18, _, _, _, _, _⟩) rfl (fun K9 hK9 => ?_) AllReadyH.nil
      go_simp
      go_at_call 132
      refine (HM.out _ XA.out).mono ?_
      rintro e w2 ⟨rfl, hb2⟩
      have hS6 : Blk w2 wr.heap.size 89 #[uv x0, uv x1, uv x2, uv x3] ∧ Blk w2 r 124 (rnd K gb) := ⟨WA.out.below hb2, RA.out.below hb2⟩
      go_wp2_with fail
      refine hK9.out _ _ ?_ (fun hHeld => ?_)
      · assumption
      clear hK9 K9
      try simp only [Act.put, List.setIfInBounds_toArray, List.set_cons_zero, List.set_cons_succ]
      refine wpAnyH_take (i := 7) (oi := ⟨some 19, _, _, _, _, _⟩) (v := .pointer (some ⟨w.heap.size, c * 4, none⟩)) rfl (by kernel_rfl) (by kernel_rfl) (by kernel_rfl) (fun _ _ _ h => h) (Or.inl ⟨by rfl, ?_⟩) (by assumption) ?_
      · (intro w9 hSw; (try dsimp only at hSw); go_simp)
      try simp only [Act.put, List.setIfInBounds_toArray, List.set_cons_zero, List.set_cons_succ]
      refine wpAnyH_ready (rs := [8]) (by kernel_rfl) (by simp) ?_
      refine AllReadyH.cons (o := ⟨none, _, _, _, _, _⟩) rfl (fun K9 hK9 => ?_) AllReadyH.nil
      have B2 := Lib.hid (BA.out.below hb2)
      have Z2 := Lib.hid (ZA.out.below hb2)
      have hB2 := bt hbA hb2
      have HRN : Hid (r < w.heap.size) := Lib.hid HRW.out.lt
      have HT2 : Hid (w2.there w.heap.size (c * 4) (([n0, n1, n2, n3].map uv).toArray).size) := Lib.hid (HTH.out _ _ B2.out)
      have B3 := Lib.hid (HP.out _ _ B2.out)
      have Z3 := Lib.hid (Z2.out.far_ (k := w.heap.size + 1) (g := w.heap.size) (by omega) (c * 4) [uv n0, uv n1, uv n2, uv n3])
      have hb3 := bw hB2 (g := w.heap.size) (Nat.le_refl _) (c * 4) [uv n0, uv n1, uv n2, uv n3]
      have hset : w2.setCells w.heap.size (c * 4) [uv n0, uv n1, uv n2, uv n3] = w2.setCells w.heap.size (c * 4) ([n0, n1, n2, n3].map uv) := rfl
      rw [hset] at B3 Z3 hb3

      have hS8 : Blk (w2.setCells w.heap.size (c * 4) ([n0, n1, n2, n3].map uv)) wr.heap.size 89 #[uv x0, uv x1, uv x2, uv x3] ∧ Blk (w2.setCells w.heap.size (c * 4) ([n0, n1, n2, n3].map uv)) r 124 (rnd K gb) := ⟨hS6.1.far_ (by omega) _ _, hS6.2.far_ (by have := HRN.out; omega) _ _⟩
      refine step_store_mid rfl _ _ _ rfl w.heap.size (c * 4) ([n0, n1, n2, n3].map uv).toArray (by rfl) (by rfl) HT2.out (by kernel_rfl) (all_oneCell_toArray (uvs_one [n0, n1, n2, n3])) ?_
      refine hK9.out _ _ ?_ (fun hHeld => ?_)
      · exact hS8
      clear hK9 K9
      try simp only [Act.put]
      refine wpAnyH_done (by kernel_rfl) ?_ _
      generalize w2.setCells w.heap.size (c * 4) ([n0, n1, n2, n3].map uv) = w3 at B3 Z3 hb3
      clear hset HT2 B2 Z2 hB2 hS6 hS8 hHeld BA ZA hbA WA RA XA hb2
      rw [HSE.out] at B3
      go_wp2_with fail
      exact ⟨⟨c + 1, by omega, by go_num, Z3, B3, hb3⟩, by simp [intOf]; omega⟩
    · obtain rfl : c = 4 := by omega
      have hB := B.out
      rw [show 4 * 4 = 16 from rfl, cutL_all HN.out HG.out] at hB
      have HBN := Lib.hid hB
      have HONE := Lib.hid (uvs_one N)
      clear hB B
      go_wp2_with (first | (refine wpList_load_row rfl _ _ rfl _ rfl _ _ _ _ HBN.out Tryz.underlying91 rfl (glen HN.out) ?_) | (refine wpList_store_mid rfl _ _ _ rfl _ _ (N.map uv).toArray rfl rfl (gthere Z1.out HZ.out HN.out) (glen HN.out) (all_oneCell_toArray HONE.out) ?_))
      have hW := Z1.out.whole (N.map uv) (by rw [List.length_map, uvs_size, HN.out, HZ.out])
      refine bodyPost_ret (v := .agg (N.map uv).toArray) (results_cell_row rfl _ _ _ _ _ _ _ rfl hW Tryz.underlying91 rfl (glen HN.out)) rfl ?_
      exact ⟨rfl, bw hb (by omega) _ _⟩
end Go.Proofs.YtcecjoodlmpgnaaGreat
/- The contract of a grid's turned. -/
namespace Go.Proofs.YtcecjoodlmpgnaaGreat
open Go.RowKit

theorem turnG_at (G : List UInt8) (c r : Nat) (hc : c < 4) (hr : r < 4) : ub (turnG G) (c * 4 + r) = ub G ((c + r) % 4 * 4 + r) := by
  unfold turnG
  rw [ub_tab _ (by omega), show (c * 4 + r) / 4 = c by omega, show (c * 4 + r) % 4 = r by omega, Nat.mul_comm]

set_option maxRecDepth 100000 in
set_option maxHeartbeats 4000000 in
theorem gturned_any (G : List UInt8) (rv : Value) (w : World) (hG : G.length = 16) :
    Calls Tryz.prog 118 #[.agg (G.map uv).toArray, rv] w fun e w' => e = .returned (.agg ((turnG G).map uv).toArray) ∧ Below w.heap.size w w' := by
  have HG := Lib.hid hG
  have HZ := Lib.hid (zerosL_len 16)
  have HGZ := Lib.hid gzero
  have HN : Hid ((turnG G).length = 16) := Lib.hid (tab_len _ _)
  have HU := Lib.hid (turnG_at G)
  obtain ⟨N, hN⟩ : ∃ N, turnG G = N := ⟨_, rfl⟩
  rw [hN] at HN HU ⊢
  obtain ⟨Z, hZ⟩ : ∃ Z, zerosL 16 = Z := ⟨_, rfl⟩
  rw [hZ] at HZ HGZ
  have H0 : Hid ((Z.map uv).toArray = ((cutL (0 * 4) N Z).map uv).toArray) := Lib.hid (by rw [Nat.zero_mul, cutL_zero])
  clear hZ hN hG
  go_enter Tryz.func118, Tryz.ntmps118
  go_upto_region 2 with fail
  rw [HGZ.out]
  have B0 := Lib.hid (((Blk.new w 91 (G.map uv).toArray).alloc (.cells (Z.map uv).toArray 91)).alloc (.cells (Z.map uv).toArray 91))
  have Z0 : Hid (Blk (((w.alloc (.cells (G.map uv).toArray 91)).alloc (.cells (Z.map uv).toArray 91)).alloc (.cells (Z.map uv).toArray 91)) (w.heap.size + 1) 91 (Z.map uv).toArray) := Lib.hid ((Blk.newAt (by simp) _ _).alloc _)
  have P0 : Hid (Blk (((w.alloc (.cells (G.map uv).toArray 91)).alloc (.cells (Z.map uv).toArray 91)).alloc (.cells (Z.map uv).toArray 91)) (w.heap.size + 1 + 1) 91 (Z.map uv).toArray) := Lib.hid (Blk.newAt (by simp) _ _)
  have hb0 := ba (ba (ba (Below.refl w.heap.size w) (.cells (G.map uv).toArray 91)) (.cells (Z.map uv).toArray 91)) (.cells (Z.map uv).toArray 91)
  generalize ((w.alloc (.cells (G.map uv).toArray 91)).alloc (.cells (Z.map uv).toArray 91)).alloc (.cells (Z.map uv).toArray 91) = w1 at B0 Z0 P0 hb0
  rw [H0.out] at P0
  go_wp2_with fail
  go_loopw [8] (fun iv wr => ∃ i : Nat, i ≤ 4 ∧ iv = .int .i64 i ∧ Hid (Blk wr w.heap.size 91 (G.map uv).toArray) ∧ Hid (Blk wr (w.heap.size + 1) 91 (Z.map uv).toArray) ∧ Hid (Blk wr (w.heap.size + 1 + 1) 91 ((cutL (i * 4) N Z).map uv).toArray) ∧ Below w.heap.size w wr) (fun iv _ => 4 - (intOf iv).toNat)
  case atStart => exact ⟨0, Nat.zero_le _, rfl, B0, Z0, P0, hb0⟩
  case round =>
    clear Z0 B0 P0 hb0
    obtain ⟨c, hc, rfl, B, Z1, P, hb⟩ := hrel
    by_cases hlt : c < 4
    · have hcl : (c : Int) < 4 := by omega
      have hc0 : (0 : Int) ≤ (c : Int) := by omega
      go_wp2_with fail
      go_loopw [11] (fun rv wx => ∃ r : Nat, r ≤ 4 ∧ rv = .int .i64 r ∧ Hid (Blk wx w.heap.size 91 (G.map uv).toArray) ∧ Hid (Blk wx (w.heap.size + 1) 91 (Z.map uv).toArray) ∧ Hid (Blk wx (w.heap.size + 1 + 1) 91 ((cutL (c * 4 + r) N Z).map uv).toArray) ∧ Below w.heap.size w wx) (fun rv _ => 4 - (intOf rv).toNat)
      case atStart => exact ⟨0, Nat.zero_le _, rfl, B, Z1, P, hb⟩
      case round =>
        clear B Z1 P hb
        obtain ⟨r, hr, rfl, B, Z1, P, hb⟩ := hrel
        by_cases hrl : r < 4
        · have hri : (r : Int) < 4 := by omega
          have hr0 : (0 : Int) ≤ (r : Int) := by omega
          have hu := HU.out c r hlt hrl
          obtain ⟨q, hq⟩ : ∃ q, (c + r) % 4 = q := ⟨_, rfl⟩
          have hqi : ((c : Int) + (r : Int)) % 4 = (q : Int) := by omega
          have hql : (q : Int) < 4 := by omega
          have hq0 : (0 : Int) ≤ (q : Int) := by omega
          rw [hq] at hu
          have hset := cutL_set HN.out HZ.out (show c * 4 + r < 16 by omega)
          have hold := (P.out.cell (c * 4 + r)).trans (row_at (by rw [cutL_len HN.out HZ.out (by omega)]; omega))
          rw [hu] at hset
          have hgat := row_at (L := G) (i := q * 4 + r) (by rw [HG.out]; omega)
          generalize ub G (q * 4 + r) = x at hset hgat
          have HGA := Lib.hid hgat
          have HST := Lib.hid hset
          have HWQ : Hid (IntKind.i64.wrap ((c : Int) + (r : Int)) = (c : Int) + (r : Int) ∧ IntKind.i64.wrap (q : Int) = (q : Int)) := Lib.hid (by constructor <;> (rw [IntKind.wrap_i64]; omega))
          clear hu hq hset hgat
          have HQT : Hid (((c : Int) + (r : Int)).tmod 4 = (q : Int)) := Lib.hid (by rw [Int.tmod_eq_emod_of_nonneg (by omega)]; exact hqi)
          go_wp2_with fail
          have hc1 : wr.drew.cell? ⟨w.heap.size + 1 + 1, c * 4 + r, none⟩ = some (uv (ub (cutL (c * 4 + r) N Z) (c * 4 + r))) := hold
          generalize ub (cutL (c * 4 + r) N Z) (c * 4 + r) = old at hc1
          have hf1 : wr.drew.frozen? ⟨w.heap.size + 1 + 1, c * 4 + r, none⟩ = false := P.out.frozen _
          have B2 := Lib.hid (B.out.far (p := ⟨w.heap.size + 1 + 1, c * 4 + r, none⟩) (by simp; omega) (uv x)).drew
          have Z2 := Lib.hid (Z1.out.far (p := ⟨w.heap.size + 1 + 1, c * 4 + r, none⟩) (by simp) (uv x)).drew
          have hP2 := (P.out.set_ (c * 4 + r) (uv x)).drew
          rw [HST.out] at hP2
          have P2 := Lib.hid hP2
          have hb2 := (bs hb (b := w.heap.size + 1 + 1) (o := c * 4 + r) (by omega) (uv x)).drew
          clear hold hP2 HST
          refine wp_region_held_drew (S := fun W => Blk W w.heap.size 91 (G.map uv).toArray) (by kernel_rfl) B.out.drew (fun hHeld => ?_)
          refine wpAnyH_take (i := 0) (oi := ⟨some 14, _, _, _, _, _⟩) (v := ?_) rfl (by kernel_rfl) (by kernel_rfl) (by kernel_rfl) (fun _ _ _ h => h) (Or.inl ⟨by rfl, ?_⟩) (by assumption) ?_
          rotate_left
          · (intro w9 hSw; (try dsimp only at hSw); go_simp; try with_reducible rfl)
          try simp only [Act.put, List.setIfInBounds_toArray, List.set_cons_zero, List.set_cons_succ]
          refine wpAnyH_take (i := 1) (oi := ⟨some 15, _, _, _, _, _⟩) (v := ?_) rfl (by kernel_rfl) (by kernel_rfl) (by kernel_rfl) (fun _ _ _ h => h) (Or.inl ⟨by rfl, ?_⟩) (by assumption) ?_
          rotate_left
          · (intro w9 hSw; (try dsimp only at hSw); go_simp; try with_reducible rfl)
          try simp only [Act.put, List.setIfInBounds_toArray, List.set_cons_zero, List.set_cons_succ]
          refine wpAnyH_take (i := 2) (oi := ⟨some 16, _, _, _, _, _⟩) (v := ?_) rfl (by kernel_rfl) (by kernel_rfl) (by kernel_rfl) (fun _ _ _ h => h) (Or.inl ⟨by rfl, ?_⟩) (by assumption) ?_
          rotate_left
          · (intro w9 hSw; (try dsimp only at hSw); go_simp; try with_reducible rfl)
          try simp only [Act.put, List.setIfInBounds_toArray, List.set_cons_zero, List.set_cons_succ]
          refine wpAnyH_take (i := 3) (oi := ⟨some 17, _, _, _, _, _⟩) (v := ?_) rfl (by kernel_rfl) (by kernel_rfl) (by kernel_rfl) (fun _ _ _ h => h) (Or.inl ⟨by rfl, ?_⟩) (by assumption) ?_
          rotate_left
          · (intro w9 hSw; (try dsimp only at hSw); go_simp; try with_reducible rfl)
          try simp only [Act.put, List.setIfInBounds_toArray, List.set_cons_zero, List.set_cons_succ]
          refine wpAnyH_take (i := 4) (oi := ⟨some 18, _, _, _, _, _⟩) (v := .int .i64 ((c : Int) + (r : Int))) rfl (by kernel_rfl) (by kernel_rfl) (by kernel_rfl) (fun _ _ _ h => h) (Or.inl ⟨by rfl, ?_⟩) (by assumption) ?_
          · (intro w9 hSw; (try dsimp only at hSw); go_simp; try rw [HWQ.out.1])
          try simp only [Act.put, List.setIfInBounds_toArray, List.set_cons_zero, List.set_cons_succ]
          refine wpAnyH_take (i := 5) (oi := ⟨some 19, _, _, _, _, _⟩) (v := .int .i64 (q : Int)) rfl (by kernel_rfl) (by kernel_rfl) (by kernel_rfl) (fun _ _ _ h => h) (Or.inl ⟨by rfl, ?_⟩) (by assumption) ?_
          · (intro w9 hSw; (try dsimp only at hSw); go_simp; (try rw [HQT.out]); try rw [HWQ.out.2])
          try simp only [Act.put, List.setIfInBounds_toArray, List.set_cons_zero, List.set_cons_succ]
          refine wpAnyH_take (i := 6) (oi := ⟨some 20, _, _, _, _, _⟩) (v := ?_) rfl (by kernel_rfl) (by kernel_rfl) (by kernel_rfl) (fun _ _ _ h => h) (Or.inl ⟨by rfl, ?_⟩) (by assumption) ?_
          rotate_left
          · (intro w9 hSw; (try dsimp only at hSw); go_simp; try with_reducible rfl)
          try simp only [Act.put, List.setIfInBounds_toArray, List.set_cons_zero, List.set_cons_succ]
          refine wpAnyH_take (i := 7) (oi := ⟨some 21, _, _, _, _, _⟩) (v := .pointer (some ⟨w.heap.size, q * 4, none⟩)) rfl (by kernel_rfl) (by kernel_rfl) (by kernel_rfl) (fun _ _ _ h => h) (Or.inl ⟨by rfl, ?_⟩) (by assumption) ?_
          · (intro w9 hSw; (try dsimp only at hSw); go_simp)
          try simp only [Act.put, List.setIfInBounds_toArray, List.set_cons_zero, List.set_cons_succ]
          refine wpAnyH_take (i := 8) (oi := ⟨some 22, _, _, _, _, _⟩) (v := .pointer (some ⟨w.heap.size, q * 4 + r, none⟩)) rfl (by kernel_rfl) (by kernel_rfl) (by kernel_rfl) (fun _ _ _ h => h) (Or.inl ⟨by rfl, ?_⟩) (by assumption) ?_
          · (intro w9 hSw; (try dsimp only at hSw); go_simp)
          try simp only [Act.put, List.setIfInBounds_toArray, List.set_cons_zero, List.set_cons_succ]
          refine wpAnyH_take (i := 9) (oi := ⟨some 23, _, _, _, _, _⟩) (v := uv x) rfl (by kernel_rfl) (by kernel_rfl) (by kernel_rfl) (fun _ _ _ h => h) (Or.inl ⟨by rfl, ?_⟩) (by assumption) ?_
          · (intro w9 hSw; have q0 := (hSw.cell (q * 4 + r)).trans HGA.out; (try dsimp only at hSw); go_simp)
          try simp only [Act.put, List.setIfInBounds_toArray, List.set_cons_zero, List.set_cons_succ]
          refine wpAnyH_take (i := 10) (oi := ⟨some 24, _, _, _, _, _⟩) (v := .pointer (some ⟨w.heap.size + 1 + 1, c * 4, none⟩)) rfl (by kernel_rfl) (by kernel_rfl) (by kernel_rfl) (fun _ _ _ h => h) (Or.inl ⟨by rfl, ?_⟩) (by assumption) ?_
          · (intro w9 hSw; (try dsimp only at hSw); go_simp)
          try simp only [Act.put, List.setIfInBounds_toArray, List.set_cons_zero, List.set_cons_succ]
          refine wpAnyH_take (i := 11) (oi := ⟨some 25, _, _, _, _, _⟩) (v := .pointer (some ⟨w.heap.size + 1 + 1, c * 4 + r, none⟩)) rfl (by kernel_rfl) (by kernel_rfl) (by kernel_rfl) (fun _ _ _ h => h) (Or.inl ⟨by rfl, ?_⟩) (by assumption) ?_
          · (intro w9 hSw; (try dsimp only at hSw); go_simp)
          try simp only [Act.put, List.setIfInBounds_toArray, List.set_cons_zero, List.set_cons_succ]
          refine wpAnyH_ready (rs := [12]) (by kernel_rfl) (by simp) ?_
          refine AllReadyH.cons (o := ⟨none, _, _, _, _, _⟩) rfl (fun K9 hK9 => ?_) AllReadyH.nil
          go_simp
          refine hK9.out _ _ ?_ (fun hHeld => ?_)
          · exact B2.out
          clear hK9 K9
          try simp only [Act.put]
          refine wpAnyH_done (by kernel_rfl) ?_ _
          generalize (wr.setCell ⟨w.heap.size + 1 + 1, c * 4 + r, none⟩ (uv x)).drew = w3 at B2 Z2 P2 hb2
          clear hHeld hc1 hf1 B Z1 P hb
          go_wp2_with fail
          exact ⟨⟨r + 1, by omega, by go_num, B2, Z2, P2, hb2⟩, by simp [intOf]; omega⟩
        · obtain rfl : r = 4 := by omega
          have HSE : Hid (c * 4 + 4 = (c + 1) * 4) := Lib.hid (by omega)
          rw [HSE.out] at P
          go_wp2_with fail
          exact ⟨⟨c + 1, by omega, by go_num, B, Z1, P, hb⟩, by simp [intOf]; omega⟩
    · obtain rfl : c = 4 := by omega
      have hP := P.out
      rw [show 4 * 4 = 16 from rfl, cutL_all HN.out HZ.out] at hP
      have HPN := Lib.hid hP
      have HONE := Lib.hid (uvs_one N)
      clear hP P
      go_wp2_with (first | (refine wpList_load_row rfl _ _ rfl _ rfl _ _ _ _ HPN.out Tryz.underlying91 rfl (glen HN.out) ?_) | (refine wpList_store_mid rfl _ _ _ rfl _ _ (N.map uv).toArray rfl rfl (gthere Z1.out HZ.out HN.out) (glen HN.out) (all_oneCell_toArray HONE.out) ?_))
      have hW := Z1.out.whole (N.map uv) (by rw [List.length_map, uvs_size, HN.out, HZ.out])
      refine bodyPost_ret (v := .agg (N.map uv).toArray) (results_cell_row rfl _ _ _ _ _ _ _ rfl hW Tryz.underlying91 rfl (glen HN.out)) rfl ?_
      exact ⟨rfl, bw hb (by omega) _ _⟩
end Go.Proofs.YtcecjoodlmpgnaaGreat
