/- Texts of this seat, one behind the other: AKeyM, AWord, AWordB, AMixW, AScrA. -/
import Derived.Deep.RegionLaw
import Derived.Test.YtnifgfnocdffcaaQ09
/- A key's words in plain lists; rows of words in memory, made and filled. Nothing of any function. -/
namespace Go.Proofs.Ytnifgfnocdffcaa
open Go.RowKit

theorem ub_append_left {A B : List UInt8} {p : Nat} (h : p < A.length) : ub (A ++ B) p = ub A p := by simp [ub, List.getD, List.getElem?_append_left h]
theorem ub_append_right {A B : List UInt8} {p : Nat} (h : A.length ≤ p) : ub (A ++ B) p = ub B (p - A.length) := by simp [ub, List.getD, List.getElem?_append_right h]
theorem ub_drop (L : List UInt8) (m p : Nat) : ub (L.drop m) p = ub L (m + p) := by simp [ub, List.getD]
theorem ub_take {L : List UInt8} {m p : Nat} (h : p < m) : ub (L.take m) p = ub L p := by simp [ub, List.getD, h]
/-- What has been made of a key stays. -/
theorem kwN_stays (key : List UInt8) (own : Nat) (h : key.length = 4 * own) (j m p : Nat) (hj : j ≤ m) (hp : p < 4 * (own + j)) : ub (kwN key own m) p = ub (kwN key own j) p := by
  induction m with
  | zero => obtain rfl : j = 0 := by omega
            rfl
  | succ m ih =>
    by_cases he : j = m + 1
    · subst he; rfl
    · rw [← ih (by omega), kwN, ub_append_left]
      rw [kwN_len key own h]; omega
theorem colG_eq {A B : List UInt8} {c : Nat} (h : ∀ r, r < 4 → ub A (4 * c + r) = ub B (4 * c + r)) : colG A c = colG B c := tab_ext h
theorem keysF_key (key : List UInt8) (h : key.length = 16 ∨ key.length = 32) (p : Nat) (hp : p < key.length) : ub (keysF key) p = ub key p :=
  kwN_stays key _ (by omega) 0 _ p (by omega) (by omega)
theorem ub_colG (G : List UInt8) (c : Nat) {r : Nat} (h : r < 4) : ub (colG G c) r = ub G (4 * c + r) := ub_tab _ h
/-- Each word behind the key's own is made as the document says. -/
theorem keysF_word (key : List UInt8) (h : key.length = 16 ∨ key.length = 32) (i : Nat) (h1 : key.length / 4 ≤ i) (h2 : i < 4 * (key.length / 4 + 7)) :
    colG (keysF key) i = nextW (keysF key) i (key.length / 4) := by
  obtain ⟨own, ho⟩ : ∃ own, key.length / 4 = own := ⟨_, rfl⟩
  have hl : key.length = 4 * own := by omega
  unfold keysF
  rw [ho] at h1 h2 ⊢
  obtain ⟨j, rfl⟩ : ∃ j, i = own + j := ⟨i - own, by omega⟩
  have hS := fun p hp => kwN_stays key own hl j (3 * own + 28) p (by omega) hp
  have hS1 := fun p hp => kwN_stays key own hl (j + 1) (3 * own + 28) p (by omega) hp
  have hL := kwN_len key own hl j
  have e1 : colG (kwN key own (3 * own + 28)) (own + j - own) = colG (kwN key own j) (own + j - own) := colG_eq fun r hr => hS _ (by omega)
  have e2 : colG (kwN key own (3 * own + 28)) (own + j - 1) = colG (kwN key own j) (own + j - 1) := colG_eq fun r hr => hS _ (by omega)
  have e3 : nextW (kwN key own (3 * own + 28)) (own + j) own = nextW (kwN key own j) (own + j) own := by unfold nextW; rw [e1, e2]
  rw [e3]
  apply list_ext (n := 4) (tab_len _ _) (nextW_len _ _ _)
  intro r hr
  refine (ub_colG _ _ hr).trans ?_
  rw [hS1 _ (by omega), kwN, ub_append_right (by omega), hL]
  congr 1
  omega
/-- A word's four bytes. -/
theorem colG_four (F : List UInt8) (c : Nat) : colG F c = [ub F (4 * c), ub F (4 * c + 1), ub F (4 * c + 2), ub F (4 * c + 3)] := rfl

/-- A row of zeros. -/
def zerosL (n : Nat) : List UInt8 := List.replicate n 0
theorem zerosL_len (n : Nat) : (zerosL n).length = n := by simp [zerosL]
theorem put4 {w : World} {g : Nat} {t : TypeId} {N M : List UInt8} {n k : Nat} (h : Blk w g t ((cutL k N M).map uv).toArray) (hn : N.length = n) (hm : M.length = n) (hk : k + 4 ≤ n) :
    Blk (w.setCells g k [uv (ub N k), uv (ub N (k + 1)), uv (ub N (k + 2)), uv (ub N (k + 3))]) g t ((cutL (k + 4) N M).map uv).toArray := by
  have := (((h.set_ k (uv (ub N k))).set_ (k + 1) (uv (ub N (k + 1)))).set_ (k + 2) (uv (ub N (k + 2)))).set_ (k + 3) (uv (ub N (k + 3)))
  rw [cutL_set4 hn hm hk] at this
  exact this
theorem infoW : (Try.prog.info? 63).map (fun i => (i.zero, i.size, i.bytes)) = some (some (.agg #[.int .u8 0, .int .u8 0, .int .u8 0, .int .u8 0]), 4, 4) := by kernel_rfl
theorem infoG : (Try.prog.info? 65).map (fun i => (i.zero, i.size, i.bytes)) = some (some (.agg #[.int .u8 0, .int .u8 0, .int .u8 0, .int .u8 0, .int .u8 0, .int .u8 0, .int .u8 0, .int .u8 0, .int .u8 0, .int .u8 0, .int .u8 0, .int .u8 0, .int .u8 0, .int .u8 0, .int .u8 0, .int .u8 0]), 16, 16) := by kernel_rfl
theorem made_zeros (z : Array Value) (s n : Nat) (hs : z.size = s) (h0 : 0 < s) (hz : ∀ i, i < s → z[i]? = some (uv 0)) : madeCells z (n * s) = ((zerosL (n * s)).map uv).toArray := by
  apply Array.ext
  · simp [size_madeCells, zerosL]
  · intro i h1 h2
    have hi : i % s < z.size := by rw [hs]; exact Nat.mod_lt _ h0
    have := hz (i % s) (Nat.mod_lt _ h0)
    rw [Array.getElem?_eq_getElem hi] at this
    have e := Option.some.inj this
    rw [← getElem!_pos z (i % s) hi] at e
    simp [madeCells, zerosL, hs, e]
theorem make_words (n : Nat) (hn : n ≤ 65536) (W : World) : (Instr.makeSlice 91 (.int .i64 0) (.int .i64 (n : Int))).run Try.prog W = .ok (.slice (some ⟨W.heap.size, 0, none⟩) 0 n) (W.alloc (.cells ((zerosL (n * 4)).map uv).toArray 63)) := by
  obtain ⟨i0, hi, hz0, hz1, hz2⟩ := info_parts infoW
  have h := run_makeSlice (P := Try.prog) W 91 63 i0 _ Try.underlying91 hi hz0 .i64 .i64 0 n (by omega) (by omega) (by rw [hz1]; omega) (by rw [hz2]; omega) (by omega)
  rw [hz1, made_zeros _ 4 _ rfl (by omega) (fun i hi => by
    obtain rfl | rfl | rfl | rfl : i = 0 ∨ i = 1 ∨ i = 2 ∨ i = 3 := by omega
    all_goals rfl)] at h
  exact h
theorem make_grids (n : Nat) (hn : n ≤ 65536) (W : World) : (Instr.makeSlice 68 (.int .i64 (n : Int)) (.int .i64 (n : Int))).run Try.prog W = .ok (.slice (some ⟨W.heap.size, 0, none⟩) n n) (W.alloc (.cells ((zerosL (n * 16)).map uv).toArray 65)) := by
  obtain ⟨i0, hi, hz0, hz1, hz2⟩ := info_parts infoG
  have h := run_makeSlice (P := Try.prog) W 68 65 i0 _ Try.underlying68 hi hz0 .i64 .i64 n n (by omega) (by omega) (by rw [hz1]; omega) (by rw [hz2]; omega) (by omega)
  rw [hz1, made_zeros _ 16 _ rfl (by omega) (fun i hi => by
    obtain rfl | rfl | rfl | rfl | rfl | rfl | rfl | rfl | rfl | rfl | rfl | rfl | rfl | rfl | rfl | rfl : i = 0 ∨ i = 1 ∨ i = 2 ∨ i = 3 ∨ i = 4 ∨ i = 5 ∨ i = 6 ∨ i = 7 ∨ i = 8 ∨ i = 9 ∨ i = 10 ∨ i = 11 ∨ i = 12 ∨ i = 13 ∨ i = 14 ∨ i = 15 := by omega
    all_goals rfl)] at h
  exact h

/-- append where there is room, in a region that does not draw. -/
theorem wpList_append_room {P : Program} {ops : Array Oper} {rest : List Oper} {o : Oper} {a : Act} {w : World} {Q : Exit → Act → World → Prop} (hg : o.guard = none) (s x : Operand) (t : TypeId)
    (hop : o.op = Op.call { callee := Callee.builtin Builtin.append, args := #[s, x], argTypes := #[t, t] })
    (e : TypeId) (i : TypeInfo) (size : Nat) (h1 : P.underlying t = some (.slice e)) (h2 : P.info? e = some i) (h4 : i.size = size)
    (b off n cap : Nat) (hs : a.eval s = .slice (some ⟨b, off, none⟩) n cap)
    (ad : Addr) (m c : Nat) (news : List Value) (hx : a.eval x = .slice (some ad) m c) (hn : news.length = m * size) (hc : ∀ j u, news[j]? = some u → w.cell? (ad.add j) = some u) (h1c : ∀ u ∈ news, u.oneCell' = true)
    (hroom : n + m ≤ cap) (hspare : ∀ j, j < news.length → (w.cell? ⟨b, off + n * size + j, none⟩).isSome = true ∧ w.frozen? ⟨b, off + n * size + j, none⟩ = false)
    (h : wpList P ops Q rest (a.put o.dst (.slice (some ⟨b, off, none⟩) (n + m) cap)) (w.setCells b (off + n * size) news)) : wpList P ops Q (o :: rest) a w :=
  wpList_plain hg fun _ hK => by
    have := step_append_room (ops := ops) (E := True) (Q := Q) hg s x t hop e i size h1 h2 h4 b off n cap hs ad m c news hx hn hc h1c hroom hspare (hK _ _ h)
    rw [if_pos (by simp [Region.wanted, hg])] at this
    exact this
theorem extract_drop (l : List UInt8) (m n : Nat) (h : l.length = n) : (⟨l.toArray⟩ : ByteArray).extract m n = ⟨(l.drop m).toArray⟩ := by
  apply ByteArray.ext
  apply Array.toList_inj.1
  rw [Lib.extract_data]
  subst h
  simp
  exact List.take_of_length_le (by simp)
theorem Blk.spare {w : World} {g : Nat} {t : TypeId} {cs : Array Value} (h : Blk w g t cs) {o n : Nat} (hn : o + n ≤ cs.size) : ∀ j, j < n → (w.cell? ⟨g, o + j, none⟩).isSome = true ∧ w.frozen? ⟨g, o + j, none⟩ = false := fun j hj => by
  refine ⟨?_, h.frozen _⟩
  rw [h.cell]
  have : o + j < cs.size := by omega
  simp [this]
theorem uvs_size (L : List UInt8) : ((L.map uv).toArray).size = L.length := by simp
/-- So many bytes of a row are known. -/
def Kn (W : World) (g : Nat) (N : List UInt8) (m : Nat) : Prop := ∀ p, p < m → W.cell? ⟨g, p, none⟩ = some (uv (ub N p))
theorem Kn.later {W W' : World} {g m : Nat} {N : List UInt8} (h : Kn W g N m) (hb : Below W.heap.size W W') : Kn W' g N m := fun p hp => cell_later hb (h p hp)
theorem Kn.drew {W : World} {g m : Nat} {N : List UInt8} (h : Kn W g N m) : Kn W.drew g N m := h
theorem Kn.le {W : World} {g m n : Nat} {N : List UInt8} (h : Kn W g N m) (hn : n ≤ m) : Kn W g N n := fun p hp => h p (by omega)
theorem kn_of {W : World} {g : Nat} {t : TypeId} {N M : List UInt8} {n k : Nat} (h : Blk W g t ((cutL k N M).map uv).toArray) (hn : N.length = n) (hm : M.length = n) (hk : k ≤ n) : Kn W g N k := fun p hp => by
  rw [h.cell, row_at (by rw [cutL_len hn hm hk]; omega), ub_cutL hn hm hk (by omega), if_pos hp]
theorem scrW_len (a b c d : UInt8) (i own : Nat) : (scrW [a, b, c, d] i own).length = 4 := by
  unfold scrW
  split
  · rfl
  · split
    · exact tab_len _ _
    · rfl
theorem cut_copy {N M : List UInt8} {n o : Nat} (hn : N.length = n) (hm : M.length = n) (h : o + 16 ≤ n) :
    (((cutL o N M).map uv).toArray.toList.take o ++ (((N.drop o).take 16).map uv) ++ ((cutL o N M).map uv).toArray.toList.drop (o + 16)).toArray = ((cutL (o + 16) N M).map uv).toArray := by
  congr 1
  rw [List.toList_toArray, ← List.map_take, ← List.map_drop, ← List.map_append, ← List.map_append]
  congr 1
  have l1 : (N.take o).length = o := by rw [List.length_take]; omega
  have e1 : (cutL o N M).take o = N.take o := by
    unfold cutL
    rw [List.take_append_of_le_length (by omega), List.take_of_length_le (by omega)]
  have e2 : (cutL o N M).drop (o + 16) = M.drop (o + 16) := by
    unfold cutL
    rw [List.drop_append, List.drop_of_length_le (by omega), List.nil_append, l1, List.drop_drop]
    congr 1
    omega
  rw [e1, e2, cutL, List.take_add]
end Go.Proofs.Ytnifgfnocdffcaa
/- The contracts of a word's turned, xor and boxed. -/
namespace Go.Proofs.Ytnifgfnocdffcaa
open Go.RowKit

theorem agg4_at (a b c d : UInt8) (k : Nat) (hk : k < 4) (W : World) : (Instr.index 63 (.agg #[uv a, uv b, uv c, uv d]) (.int .i64 (k : Int))).run Try.prog W = .ok (uv (ub [a, b, c, d] k)) W := by
  obtain rfl | rfl | rfl | rfl : k = 0 ∨ k = 1 ∨ k = 2 ∨ k = 3 := by omega
  all_goals kernel_rfl
theorem wlen {L : List UInt8} (h : L.length = 4) : (Try.prog.info? 63).map (·.size) = some ((L.map uv).toArray).size := by
  rw [List.size_toArray, List.length_map, h]; kernel_rfl
theorem wlen' {L : List UInt8} (h : L.length = 4) : (Try.prog.info? 63).map (·.size) = some ((L.map uv)).length := by
  rw [List.length_map, h]; kernel_rfl

set_option maxRecDepth 100000 in
set_option maxHeartbeats 1000000 in
theorem turned_any (a b c d : UInt8) (w : World) :
    Calls Try.prog 103 #[.agg #[uv a, uv b, uv c, uv d]] w fun e w' => e = .returned (.agg #[uv b, uv c, uv d, uv a]) ∧ Below w.heap.size w w' := by
  go_enter Try.func103, Try.ntmps103
  go_wp2
  refine bodyPost_ret (v := .agg #[uv b, uv c, uv d, uv a]) (results_cell_row rfl _ _ _ _ _ _ _ rfl (Blk.newAt (by simp) _ _) Try.underlying63 rfl (by kernel_rfl)) rfl ?_
  exact ⟨rfl, ba (ba (Below.refl _ _) _) _⟩

set_option maxRecDepth 100000 in
set_option maxHeartbeats 1000000 in
theorem xor_any (a b c d a' b' c' d' : UInt8) (w : World) :
    Calls Try.prog 83 #[.agg #[uv a, uv b, uv c, uv d], .agg #[uv a', uv b', uv c', uv d']] w fun e w' => e = .returned (.agg ((xorW [a, b, c, d] [a', b', c', d']).map uv).toArray) ∧ Below w.heap.size w w' := by
  have HI := Lib.hid (agg4_at a' b' c' d')
  have hA : [a, b, c, d].length = 4 := rfl
  have HA := Lib.hid hA
  have HN : Hid ((xorW [a, b, c, d] [a', b', c', d']).length = 4) := Lib.hid (tab_len _ _)
  have HU : Hid (∀ k, k < 4 → ub (xorW [a, b, c, d] [a', b', c', d']) k = ub [a, b, c, d] k ^^^ ub [a', b', c', d'] k) := Lib.hid fun k hk => ub_tab _ hk
  obtain ⟨N, hN⟩ : ∃ N, xorW [a, b, c, d] [a', b', c', d'] = N := ⟨_, rfl⟩
  rw [hN] at HN HU ⊢
  obtain ⟨B, hB⟩ : ∃ B, [a', b', c', d'] = B := ⟨_, rfl⟩
  rw [hB] at HI HU
  have H0 : Hid (((cutL 0 N [a, b, c, d]).map uv).toArray = #[uv a, uv b, uv c, uv d]) := Lib.hid (by rw [cutL_zero]; rfl)
  obtain ⟨A, hA'⟩ : ∃ A, [a, b, c, d] = A := ⟨_, rfl⟩
  rw [hA'] at HA HU H0
  clear hN hB hA' hA
  go_enter Try.func83, Try.ntmps83
  go_wp2_with fail
  go_loopw [8] (fun iv wr => ∃ k : Nat, k ≤ 4 ∧ iv = .int .i64 k ∧ Hid (Blk wr w.heap.size 63 ((cutL k N A).map uv).toArray) ∧ Hid (Blk wr (w.heap.size + 2) 63 #[uv 0, uv 0, uv 0, uv 0]) ∧ Below w.heap.size w wr) (fun iv _ => 4 - (intOf iv).toNat)
  case atStart =>
    refine ⟨0, by omega, rfl, Lib.hid ?_, Lib.hid ?_, ba (ba (ba (Below.refl _ _) _) _) _⟩
    · rw [H0.out]; exact ((Blk.new w _ _).alloc _).alloc _
    · exact Blk.newAt (by simp) _ _
  case round =>
    obtain ⟨k, hk, rfl, P, Z, hb⟩ := hrel
    by_cases hlt : k < 4
    · have hix := HI.out k hlt
      have hc := (P.out.cell k).trans (row_at (by rw [cutL_len HN.out HA.out hk]; exact hlt))
      rw [ub_cutL HN.out HA.out hk hlt, if_neg (Nat.lt_irrefl _)] at hc
      have hf := P.out.frozen k
      have hset := cutL_set HN.out HA.out hlt
      rw [HU.out k hlt] at hset
      have hx := xor_byte (ub A k) (ub B k)
      generalize ub A k = x at hc hset hx
      generalize ub B k = y at hix hset hx
      obtain ⟨z, hz⟩ : ∃ z, x ^^^ y = z := ⟨_, rfl⟩
      rw [hz] at hset hx
      have HS := Lib.hid hset
      have i0 : (0 : Int) ≤ (k : Int) := by omega
      have i1 : (k : Int) < 4 := by omega
      clear hset hz
      go_wp2
      exact ⟨⟨k + 1, by omega, by go_num, Lib.hid (by have := P.out.set_ k (uv z); rw [HS.out] at this; exact this), Lib.hid (Z.out.far (by simp) _), bs hb (by omega) _⟩, by simp [intOf]; omega⟩
    · obtain rfl : k = 4 := by omega
      have hP := P.out
      rw [cutL_all HN.out HA.out] at hP
      have HONE := Lib.hid (uvs_one N)
      have HZ := HN.out
      go_wp2_with (first | (refine wpList_load_row rfl _ _ rfl _ rfl _ _ _ _ hP Try.underlying63 rfl (wlen HN.out) ?_) | (refine wpList_store_mid rfl _ _ _ rfl _ _ (N.map uv).toArray rfl rfl (Z.out.there (by rw [List.size_toArray, List.length_map, HN.out]; exact Nat.le_refl 4)) (wlen HN.out) (all_oneCell_toArray HONE.out) ?_))
      have hW := Z.out.whole (N.map uv) (by rw [List.length_map, HN.out]; rfl)
      refine bodyPost_ret (v := .agg (N.map uv).toArray) (results_cell_row rfl _ _ _ _ _ _ _ rfl hW Try.underlying63 rfl (wlen HN.out)) rfl ?_
      exact ⟨rfl, bw hb (by omega) _ _⟩
end Go.Proofs.Ytnifgfnocdffcaa
/- The contracts of a word's boxed, and of wordOf. -/
namespace Go.Proofs.Ytnifgfnocdffcaa
open Go.RowKit

def bxs : Array Value := (boxT.map bv).toArray
theorem bxs_at (b : UInt8) : bxs[b.toNat]? = some (uv (box8 b)) := boxT_at b

set_option maxRecDepth 100000 in
set_option maxHeartbeats 1000000 in
theorem boxed_any (a b c d : UInt8) (gb : Nat) (w : World) (hx : Blk w gb 5 bxs) :
    Calls Try.prog 101 #[.agg #[uv a, uv b, uv c, uv d], .slice (some ⟨gb, 0, none⟩) 256 256] w fun e w' => e = .returned (.agg ((boxW [a, b, c, d]).map uv).toArray) ∧ Below w.heap.size w w' := by
  have HI := Lib.hid (agg4_at a b c d)
  have HA : Hid ([a, b, c, d].length = 4) := Lib.hid rfl
  have HN : Hid ((boxW [a, b, c, d]).length = 4) := Lib.hid (tab_len _ _)
  have HU : Hid (∀ k, k < 4 → ub (boxW [a, b, c, d]) k = box8 (ub [a, b, c, d] k)) := Lib.hid fun k hk => ub_tab _ hk
  obtain ⟨N, hN⟩ : ∃ N, boxW [a, b, c, d] = N := ⟨_, rfl⟩
  rw [hN] at HN HU ⊢
  have H0 : Hid (((cutL 0 N [a, b, c, d]).map uv).toArray = #[uv a, uv b, uv c, uv d]) := Lib.hid (by rw [cutL_zero]; rfl)
  obtain ⟨A, hA'⟩ : ∃ A, [a, b, c, d] = A := ⟨_, rfl⟩
  rw [hA'] at HA HU H0 HI
  clear hN hA'
  have HX := Lib.hid hx
  have HXA := Lib.hid bxs_at
  obtain ⟨X, hX⟩ : ∃ X, bxs = X := ⟨_, rfl⟩
  rw [hX] at HX HXA
  have hgb := hx.lt
  clear hx hX
  go_enter Try.func101, Try.ntmps101
  go_wp2_with fail
  go_loopw [8] (fun iv wr => ∃ k : Nat, k ≤ 4 ∧ iv = .int .i64 k ∧ Hid (Blk wr w.heap.size 63 ((cutL k N A).map uv).toArray) ∧ Hid (Blk wr (w.heap.size + 1) 63 #[uv 0, uv 0, uv 0, uv 0]) ∧ Below w.heap.size w wr) (fun iv _ => 4 - (intOf iv).toNat)
  case atStart =>
    refine ⟨0, by omega, rfl, Lib.hid ?_, Lib.hid ?_, ba (ba (Below.refl _ _) _) _⟩
    · rw [H0.out]; exact (Blk.new w _ _).alloc _
    · exact Blk.newAt (by simp) _ _
  case round =>
    obtain ⟨k, hk, rfl, P, Z, hb⟩ := hrel
    by_cases hlt : k < 4
    · have hix := HI.out k hlt
      have hf := P.out.frozen k
      have hset := cutL_set HN.out HA.out hlt
      rw [HU.out k hlt] at hset
      have hc := (P.out.cell k).trans (row_at (by rw [cutL_len HN.out HA.out hk]; exact hlt))
      generalize ub A k = x at hix hset
      have hbx := ((HX.out.below hb).cell x.toNat).trans (HXA.out x)
      have hx8 := x.toNat_lt
      generalize box8 x = z at hbx hset
      have HS := Lib.hid hset
      have i0 : (0 : Int) ≤ (k : Int) := by omega
      have i1 : (k : Int) < 4 := by omega
      clear hset
      go_wp2
      exact ⟨⟨k + 1, by omega, by go_num, Lib.hid (by have := P.out.set_ k (uv z); rw [HS.out] at this; exact this), Lib.hid (Z.out.far (by simp) _), bs hb (by omega) _⟩, by simp [intOf]; omega⟩
    · obtain rfl : k = 4 := by omega
      have hP := P.out
      rw [cutL_all HN.out HA.out] at hP
      have HONE := Lib.hid (uvs_one N)
      have HZ := HN.out
      go_wp2_with (first | (refine wpList_load_row rfl _ _ rfl _ rfl _ _ _ _ hP Try.underlying63 rfl (wlen HN.out) ?_) | (refine wpList_store_mid rfl _ _ _ rfl _ _ (N.map uv).toArray rfl rfl (Z.out.there (by rw [List.size_toArray, List.length_map, HN.out]; exact Nat.le_refl 4)) (wlen HN.out) (all_oneCell_toArray HONE.out) ?_))
      have hW := Z.out.whole (N.map uv) (by rw [List.length_map, HN.out]; rfl)
      refine bodyPost_ret (v := .agg (N.map uv).toArray) (results_cell_row rfl _ _ _ _ _ _ _ rfl hW Try.underlying63 rfl (wlen HN.out)) rfl ?_
      exact ⟨rfl, bw hb (by omega) _ _⟩

set_option maxRecDepth 100000 in
set_option maxHeartbeats 1000000 in
theorem wordOf_any (l : List UInt8) (w : World) (hl : 4 ≤ l.length) :
    Calls Try.prog 57 #[.string ⟨l.toArray⟩] w fun e w' => e = .returned (.agg #[uv (ub l 0), uv (ub l 1), uv (ub l 2), uv (ub l 3)]) ∧ Below w.heap.size w w' := by
  have hB : Blk ((w.alloc (.cells #[.int .u8 0, .int .u8 0, .int .u8 0, .int .u8 0] 63)).alloc (.cells #[.int .u8 0, .int .u8 0, .int .u8 0, .int .u8 0] 63)) (w.heap.size + 1) 63 #[.int .u8 0, .int .u8 0, .int .u8 0, .int .u8 0] := Blk.newAt (by simp) _ _
  have hR : Blk ((w.alloc (.cells #[.int .u8 0, .int .u8 0, .int .u8 0, .int .u8 0] 63)).alloc (.cells #[.int .u8 0, .int .u8 0, .int .u8 0, .int .u8 0] 63)) w.heap.size 63 #[.int .u8 0, .int .u8 0, .int .u8 0, .int .u8 0] := (Blk.new w _ _).alloc _
  have hcp := copy_text _ _ 4 l _ _ hB hl rfl
  have hbb : Below w.heap.size w ((w.alloc (.cells #[.int .u8 0, .int .u8 0, .int .u8 0, .int .u8 0] 63)).alloc (.cells #[.int .u8 0, .int .u8 0, .int .u8 0, .int .u8 0] 63)) := ba (ba (Below.refl _ _) _) _
  have htk : l.take 4 = [ub l 0, ub l 1, ub l 2, ub l 3] := list_ext (n := 4) (by rw [List.length_take]; omega) rfl (fun i hi => by
    rw [ub_at (by rw [List.length_take]; omega), List.getElem_take, ← ub_at]
    obtain rfl | rfl | rfl | rfl : i = 0 ∨ i = 1 ∨ i = 2 ∨ i = 3 := by omega
    all_goals rfl)
  rw [htk] at hcp
  generalize ub l 0 = a at hcp ⊢
  generalize ub l 1 = b at hcp ⊢
  generalize ub l 2 = c at hcp ⊢
  generalize ub l 3 = d at hcp ⊢
  have hB2 := hB.setRow ([a, b, c, d].map uv).toArray
  have hR2 := hR.setRow_far (k := w.heap.size) (g := w.heap.size + 1) (by omega) ([a, b, c, d].map uv).toArray
  have hbb2 := below_setRow hbb (g := w.heap.size + 1) (by omega) ([a, b, c, d].map uv).toArray
  obtain ⟨w2, hw2⟩ : ∃ w2, World.setRow ((w.alloc (.cells #[.int .u8 0, .int .u8 0, .int .u8 0, .int .u8 0] 63)).alloc (.cells #[.int .u8 0, .int .u8 0, .int .u8 0, .int .u8 0] 63)) (w.heap.size + 1) ([a, b, c, d].map uv).toArray = w2 := ⟨_, rfl⟩
  rw [hw2] at hcp hB2 hR2 hbb2
  have HB := Lib.hid hB2
  have HR := Lib.hid hR2
  clear hw2 hB hR hbb htk hB2 hR2
  go_enter Try.func57, Try.ntmps57
  go_wp2_with (first | (refine wpList_load_row rfl _ _ rfl _ rfl _ _ _ _ HB.out Try.underlying63 rfl (by kernel_rfl) ?_) | (refine wpList_store_mid rfl _ _ _ rfl _ _ ([a, b, c, d].map uv).toArray rfl rfl (HR.out.there (by simp)) (by kernel_rfl) (all_oneCell_toArray (uvs_one _)) ?_))
  have hW := HR.out.whole ([a, b, c, d].map uv) rfl
  refine bodyPost_ret (v := .agg ([a, b, c, d].map uv).toArray) (results_cell_row rfl _ _ _ _ _ _ _ rfl hW Try.underlying63 rfl (by kernel_rfl)) rfl ?_
  exact ⟨rfl, bw hbb2 (by omega) _ _⟩
end Go.Proofs.Ytnifgfnocdffcaa
/- The contract of a word's mixed. -/
namespace Go.Proofs.Ytnifgfnocdffcaa
open Go.RowKit

theorem mul8_any (a b : UInt8) (w : World) : Calls Try.prog 56 #[.int .u8 (a.toNat : Int), .int .u8 (b.toNat : Int)] w fun e w' => e = .returned (uv (mul8 a b)) ∧ w = w' := by
  have ha := a.toNat_lt
  have hb := b.toNat_lt
  refine (mul_any a.toNat b.toNat w (by omega) (by omega)).mono ?_
  rintro e w' ⟨rfl, rfl⟩
  rw [← mul8_nat]
  exact ⟨rfl, rfl⟩
theorem mul2_any (a : UInt8) (w : World) : Calls Try.prog 56 #[.int .u8 (a.toNat : Int), .int .u8 2] w fun e w' => e = .returned (uv (mul8 a 2)) ∧ w = w' := mul8_any a 2 w
theorem mul3_any (a : UInt8) (w : World) : Calls Try.prog 56 #[.int .u8 (a.toNat : Int), .int .u8 3] w fun e w' => e = .returned (uv (mul8 a 3)) ∧ w = w' := mul8_any a 3 w

set_option maxRecDepth 100000 in
set_option maxHeartbeats 4000000 in
theorem mixed_any (a b c d : UInt8) (w : World) :
    Calls Try.prog 102 #[.agg #[uv a, uv b, uv c, uv d]] w fun e w' => e = .returned (.agg ((mixW [a, b, c, d]).map uv).toArray) ∧ Below w.heap.size w w' := by
  have HZ : Hid (([0, 0, 0, 0] : List UInt8).length = 4) := Lib.hid rfl
  have HN : Hid ((mixW [a, b, c, d]).length = 4) := Lib.hid (tab_len _ _)
  have HU : Hid (∀ k, k < 4 → ub (mixW [a, b, c, d]) k = mixB (ub [a, b, c, d] k) (ub [a, b, c, d] ((k + 1) % 4)) (ub [a, b, c, d] ((k + 2) % 4)) (ub [a, b, c, d] ((k + 3) % 4))) := Lib.hid fun k hk => ub_tab _ hk
  obtain ⟨N, hN⟩ : ∃ N, mixW [a, b, c, d] = N := ⟨_, rfl⟩
  rw [hN] at HN HU ⊢
  have H0 : Hid (((cutL 0 N [0, 0, 0, 0]).map uv).toArray = #[uv 0, uv 0, uv 0, uv 0]) := Lib.hid (by rw [cutL_zero]; rfl)
  clear hN
  go_enter Try.func102, Try.ntmps102
  go_wp2_with fail
  go_loopw [9] (fun iv wr => ∃ k : Nat, k ≤ 4 ∧ iv = .int .i64 k ∧ Hid (Blk wr w.heap.size 63 #[uv a, uv b, uv c, uv d]) ∧ Hid (Blk wr (w.heap.size + 1) 63 #[uv 0, uv 0, uv 0, uv 0]) ∧ Hid (Blk wr (w.heap.size + 2) 63 ((cutL k N [0, 0, 0, 0]).map uv).toArray) ∧ Below w.heap.size w wr) (fun iv _ => 4 - (intOf iv).toNat)
  case atStart =>
    refine ⟨0, by omega, rfl, Lib.hid ?_, Lib.hid ?_, Lib.hid ?_, ba (ba (ba (Below.refl _ _) _) _) _⟩
    · exact ((Blk.new w _ _).alloc _).alloc _
    · exact (Blk.newAt (by simp) _ _).alloc _
    · rw [H0.out]; exact Blk.newAt (by simp) _ _
  case round =>
    obtain ⟨k, hk, rfl, A, Z, P, hb⟩ := hrel
    by_cases hlt : k < 4
    · have c0 := A.out.cell 0
      have c1 := A.out.cell 1
      have c2 := A.out.cell 2
      have c3 := A.out.cell 3
      simp only [List.getElem?_toArray, List.getElem?_cons_zero, List.getElem?_cons_succ] at c0 c1 c2 c3
      have hset := cutL_set HN.out HZ.out hlt
      rw [HU.out k hlt] at hset
      have hc := (P.out.cell k).trans (row_at (by rw [cutL_len HN.out HZ.out hk]; exact hlt))
      generalize ub (cutL k N [0, 0, 0, 0]) k = old at hc
      have hf := P.out.frozen k
      obtain rfl | rfl | rfl | rfl : k = 0 ∨ k = 1 ∨ k = 2 ∨ k = 3 := by omega
      · have hset' : (((cutL 0 N [0, 0, 0, 0]).map uv).toArray).setIfInBounds 0 (uv (mul8 a 2 ^^^ mul8 b 3 ^^^ c ^^^ d)) = ((cutL 1 N [0, 0, 0, 0]).map uv).toArray := hset
        obtain ⟨p, hp⟩ : ∃ p, mul8 a 2 = p := ⟨_, rfl⟩
        obtain ⟨q, hq⟩ : ∃ q, mul8 b 3 = q := ⟨_, rfl⟩
        have HM2 := Lib.hid (fun W => mul2_any a W)
        have HM3 := Lib.hid (fun W => mul3_any b W)
        rw [hp] at hset' HM2
        rw [hq] at hset' HM3
        have x1 := xor_byte p q
        have x2 := xor_byte (p ^^^ q) c
        have x3 := xor_byte (p ^^^ q ^^^ c) d
        generalize p ^^^ q = y at x1 x2 x3 hset'
        generalize y ^^^ c = z at x2 x3 hset'
        generalize z ^^^ d = t at x3 hset'
        have HS := Lib.hid hset'
        have HX1 := Lib.hid x1
        have HX2 := Lib.hid x2
        have HX3 := Lib.hid x3
        clear hset hset' hp hq x1 x2 x3 hlt hk
        go_wp2_with fail
        go_quiet (fail)
        clear c0 c1 c2 c3
        obtain ⟨w3, hw3⟩ := drewN_name wr nq
        rw [hw3]
        have A3 : Hid (Blk w3 w.heap.size 63 #[uv a, uv b, uv c, uv d]) := Lib.hid (by rw [← hw3]; exact A.out.drewN _)
        have Z3 : Hid (Blk w3 (w.heap.size + 1) 63 #[uv 0, uv 0, uv 0, uv 0]) := Lib.hid (by rw [← hw3]; exact Z.out.drewN _)
        have P3 : Hid (Blk w3 (w.heap.size + 2) 63 ((cutL 0 N [0, 0, 0, 0]).map uv).toArray) := Lib.hid (by rw [← hw3]; exact P.out.drewN _)
        have hb3 : Below w.heap.size w w3 := by rw [← hw3]; exact bdn' hb _
        have hc3 : w3.cell? ⟨w.heap.size + 2, 0, none⟩ = some (uv old) := by rw [← hw3]; exact hc
        have hf3 := P3.out.frozen 0
        clear hw3 A Z P hb hc hf
        have x1 := HX1.out
        have x2 := HX2.out
        have x3 := HX3.out
        go_wp2_with fail
        refine (HM2.out _).mono ?_
        rintro e w4 ⟨rfl, rfl⟩
        go_wp2_with fail
        refine (HM3.out _).mono ?_
        rintro e w4 ⟨rfl, rfl⟩
        go_wp2
        exact ⟨⟨1, by omega, by go_num, Lib.hid (A3.out.far (by simp; omega) _), Lib.hid (Z3.out.far (by simp) _), Lib.hid (by have := P3.out.set_ 0 (uv t); rw [HS.out] at this; exact this), bs hb3 (by omega) _⟩, by simp [intOf]⟩
      · have hset' : (((cutL 1 N [0, 0, 0, 0]).map uv).toArray).setIfInBounds 1 (uv (mul8 b 2 ^^^ mul8 c 3 ^^^ d ^^^ a)) = ((cutL 2 N [0, 0, 0, 0]).map uv).toArray := hset
        obtain ⟨p, hp⟩ : ∃ p, mul8 b 2 = p := ⟨_, rfl⟩
        obtain ⟨q, hq⟩ : ∃ q, mul8 c 3 = q := ⟨_, rfl⟩
        have HM2 := Lib.hid (fun W => mul2_any b W)
        have HM3 := Lib.hid (fun W => mul3_any c W)
        rw [hp] at hset' HM2
        rw [hq] at hset' HM3
        have x1 := xor_byte p q
        have x2 := xor_byte (p ^^^ q) d
        have x3 := xor_byte (p ^^^ q ^^^ d) a
        generalize p ^^^ q = y at x1 x2 x3 hset'
        generalize y ^^^ d = z at x2 x3 hset'
        generalize z ^^^ a = t at x3 hset'
        have HS := Lib.hid hset'
        have HX1 := Lib.hid x1
        have HX2 := Lib.hid x2
        have HX3 := Lib.hid x3
        clear hset hset' hp hq x1 x2 x3 hlt hk
        go_wp2_with fail
        go_quiet (fail)
        clear c0 c1 c2 c3
        obtain ⟨w3, hw3⟩ := drewN_name wr nq
        rw [hw3]
        have A3 : Hid (Blk w3 w.heap.size 63 #[uv a, uv b, uv c, uv d]) := Lib.hid (by rw [← hw3]; exact A.out.drewN _)
        have Z3 : Hid (Blk w3 (w.heap.size + 1) 63 #[uv 0, uv 0, uv 0, uv 0]) := Lib.hid (by rw [← hw3]; exact Z.out.drewN _)
        have P3 : Hid (Blk w3 (w.heap.size + 2) 63 ((cutL 1 N [0, 0, 0, 0]).map uv).toArray) := Lib.hid (by rw [← hw3]; exact P.out.drewN _)
        have hb3 : Below w.heap.size w w3 := by rw [← hw3]; exact bdn' hb _
        have hc3 : w3.cell? ⟨w.heap.size + 2, 1, none⟩ = some (uv old) := by rw [← hw3]; exact hc
        have hf3 := P3.out.frozen 1
        clear hw3 A Z P hb hc hf
        have x1 := HX1.out
        have x2 := HX2.out
        have x3 := HX3.out
        go_wp2_with fail
        refine (HM2.out _).mono ?_
        rintro e w4 ⟨rfl, rfl⟩
        go_wp2_with fail
        refine (HM3.out _).mono ?_
        rintro e w4 ⟨rfl, rfl⟩
        go_wp2
        exact ⟨⟨2, by omega, by go_num, Lib.hid (A3.out.far (by simp; omega) _), Lib.hid (Z3.out.far (by simp) _), Lib.hid (by have := P3.out.set_ 1 (uv t); rw [HS.out] at this; exact this), bs hb3 (by omega) _⟩, by simp [intOf]⟩
      · have hset' : (((cutL 2 N [0, 0, 0, 0]).map uv).toArray).setIfInBounds 2 (uv (mul8 c 2 ^^^ mul8 d 3 ^^^ a ^^^ b)) = ((cutL 3 N [0, 0, 0, 0]).map uv).toArray := hset
        obtain ⟨p, hp⟩ : ∃ p, mul8 c 2 = p := ⟨_, rfl⟩
        obtain ⟨q, hq⟩ : ∃ q, mul8 d 3 = q := ⟨_, rfl⟩
        have HM2 := Lib.hid (fun W => mul2_any c W)
        have HM3 := Lib.hid (fun W => mul3_any d W)
        rw [hp] at hset' HM2
        rw [hq] at hset' HM3
        have x1 := xor_byte p q
        have x2 := xor_byte (p ^^^ q) a
        have x3 := xor_byte (p ^^^ q ^^^ a) b
        generalize p ^^^ q = y at x1 x2 x3 hset'
        generalize y ^^^ a = z at x2 x3 hset'
        generalize z ^^^ b = t at x3 hset'
        have HS := Lib.hid hset'
        have HX1 := Lib.hid x1
        have HX2 := Lib.hid x2
        have HX3 := Lib.hid x3
        clear hset hset' hp hq x1 x2 x3 hlt hk
        go_wp2_with fail
        go_quiet (fail)
        clear c0 c1 c2 c3
        obtain ⟨w3, hw3⟩ := drewN_name wr nq
        rw [hw3]
        have A3 : Hid (Blk w3 w.heap.size 63 #[uv a, uv b, uv c, uv d]) := Lib.hid (by rw [← hw3]; exact A.out.drewN _)
        have Z3 : Hid (Blk w3 (w.heap.size + 1) 63 #[uv 0, uv 0, uv 0, uv 0]) := Lib.hid (by rw [← hw3]; exact Z.out.drewN _)
        have P3 : Hid (Blk w3 (w.heap.size + 2) 63 ((cutL 2 N [0, 0, 0, 0]).map uv).toArray) := Lib.hid (by rw [← hw3]; exact P.out.drewN _)
        have hb3 : Below w.heap.size w w3 := by rw [← hw3]; exact bdn' hb _
        have hc3 : w3.cell? ⟨w.heap.size + 2, 2, none⟩ = some (uv old) := by rw [← hw3]; exact hc
        have hf3 := P3.out.frozen 2
        clear hw3 A Z P hb hc hf
        have x1 := HX1.out
        have x2 := HX2.out
        have x3 := HX3.out
        go_wp2_with fail
        refine (HM2.out _).mono ?_
        rintro e w4 ⟨rfl, rfl⟩
        go_wp2_with fail
        refine (HM3.out _).mono ?_
        rintro e w4 ⟨rfl, rfl⟩
        go_wp2
        exact ⟨⟨3, by omega, by go_num, Lib.hid (A3.out.far (by simp; omega) _), Lib.hid (Z3.out.far (by simp) _), Lib.hid (by have := P3.out.set_ 2 (uv t); rw [HS.out] at this; exact this), bs hb3 (by omega) _⟩, by simp [intOf]⟩
      · have hset' : (((cutL 3 N [0, 0, 0, 0]).map uv).toArray).setIfInBounds 3 (uv (mul8 d 2 ^^^ mul8 a 3 ^^^ b ^^^ c)) = ((cutL 4 N [0, 0, 0, 0]).map uv).toArray := hset
        obtain ⟨p, hp⟩ : ∃ p, mul8 d 2 = p := ⟨_, rfl⟩
        obtain ⟨q, hq⟩ : ∃ q, mul8 a 3 = q := ⟨_, rfl⟩
        have HM2 := Lib.hid (fun W => mul2_any d W)
        have HM3 := Lib.hid (fun W => mul3_any a W)
        rw [hp] at hset' HM2
        rw [hq] at hset' HM3
        have x1 := xor_byte p q
        have x2 := xor_byte (p ^^^ q) b
        have x3 := xor_byte (p ^^^ q ^^^ b) c
        generalize p ^^^ q = y at x1 x2 x3 hset'
        generalize y ^^^ b = z at x2 x3 hset'
        generalize z ^^^ c = t at x3 hset'
        have HS := Lib.hid hset'
        have HX1 := Lib.hid x1
        have HX2 := Lib.hid x2
        have HX3 := Lib.hid x3
        clear hset hset' hp hq x1 x2 x3 hlt hk
        go_wp2_with fail
        go_quiet (fail)
        clear c0 c1 c2 c3
        obtain ⟨w3, hw3⟩ := drewN_name wr nq
        rw [hw3]
        have A3 : Hid (Blk w3 w.heap.size 63 #[uv a, uv b, uv c, uv d]) := Lib.hid (by rw [← hw3]; exact A.out.drewN _)
        have Z3 : Hid (Blk w3 (w.heap.size + 1) 63 #[uv 0, uv 0, uv 0, uv 0]) := Lib.hid (by rw [← hw3]; exact Z.out.drewN _)
        have P3 : Hid (Blk w3 (w.heap.size + 2) 63 ((cutL 3 N [0, 0, 0, 0]).map uv).toArray) := Lib.hid (by rw [← hw3]; exact P.out.drewN _)
        have hb3 : Below w.heap.size w w3 := by rw [← hw3]; exact bdn' hb _
        have hc3 : w3.cell? ⟨w.heap.size + 2, 3, none⟩ = some (uv old) := by rw [← hw3]; exact hc
        have hf3 := P3.out.frozen 3
        clear hw3 A Z P hb hc hf
        have x1 := HX1.out
        have x2 := HX2.out
        have x3 := HX3.out
        go_wp2_with fail
        refine (HM2.out _).mono ?_
        rintro e w4 ⟨rfl, rfl⟩
        go_wp2_with fail
        refine (HM3.out _).mono ?_
        rintro e w4 ⟨rfl, rfl⟩
        go_wp2
        exact ⟨⟨4, by omega, by go_num, Lib.hid (A3.out.far (by simp; omega) _), Lib.hid (Z3.out.far (by simp) _), Lib.hid (by have := P3.out.set_ 3 (uv t); rw [HS.out] at this; exact this), bs hb3 (by omega) _⟩, by simp [intOf]⟩
    · obtain rfl : k = 4 := by omega
      have hP := P.out
      rw [cutL_all HN.out HZ.out] at hP
      have HONE := Lib.hid (uvs_one N)
      go_wp2_with (first | (refine wpList_load_row rfl _ _ rfl _ rfl _ _ _ _ hP Try.underlying63 rfl (wlen HN.out) ?_) | (refine wpList_store_mid rfl _ _ _ rfl _ _ (N.map uv).toArray rfl rfl (Z.out.there (by rw [List.size_toArray, List.length_map, HN.out]; exact Nat.le_refl 4)) (wlen HN.out) (all_oneCell_toArray HONE.out) ?_))
      have hW := Z.out.whole (N.map uv) (by rw [List.length_map, HN.out]; rfl)
      refine bodyPost_ret (v := .agg (N.map uv).toArray) (results_cell_row rfl _ _ _ _ _ _ _ rfl hW Try.underlying63 rfl (wlen HN.out)) rfl ?_
      exact ⟨rfl, bw hb (by omega) _ _⟩
end Go.Proofs.Ytnifgfnocdffcaa
/- The contract of a word's scrambled. -/
namespace Go.Proofs.Ytnifgfnocdffcaa
open Go.RowKit

theorem pow2_any (n : Nat) (w : World) (hn : (n : Int) ≤ 1000) : Calls Try.prog 77 #[.int .u8 2, .int .i64 (n : Int)] w fun e w' => e = .returned (uv (pw8 n)) ∧ w = w' := by
  refine (pow_any 2 n w (by omega) (by omega) (by omega)).mono ?_
  rintro e w' ⟨rfl, rfl⟩
  have : uv (pw8 n) = .int .u8 ((pw 2 n : Nat) : Int) := by rw [← pw8_nat]
  rw [this]
  exact ⟨rfl, rfl⟩
theorem boxed_ex (a b c d : UInt8) (gb : Nat) (w : World) (hx : Blk w gb 5 bxs) :
    Calls Try.prog 101 #[.agg #[uv a, uv b, uv c, uv d], .slice (some ⟨gb, 0, none⟩) 256 256] w fun e w' => e = .returned (.agg #[uv (box8 a), uv (box8 b), uv (box8 c), uv (box8 d)]) ∧ Below w.heap.size w w' := boxed_any a b c d gb w hx

set_option maxRecDepth 100000 in
set_option maxHeartbeats 1000000 in
theorem scr_same (a b c d : UInt8) (i own gb : Nat) (w : World) (h0 : own = 4 ∨ own = 8) (h1 : i % own ≠ 0) (h2 : ¬ (own = 8 ∧ i % own = 4)) :
    Calls Try.prog 84 #[.agg #[uv a, uv b, uv c, uv d], .int .i64 (i : Int), .int .i64 (own : Int), .slice (some ⟨gb, 0, none⟩) 256 256] w fun e w' => e = .returned (.agg #[uv a, uv b, uv c, uv d]) ∧ Below w.heap.size w w' := by
  rcases h0 with rfl | rfl
  · have z0 : ((i : Int) % 4 == 0) = false := by simp; omega
    clear h1 h2
    go_enter Try.func84, Try.ntmps84
    go_wp2
    refine bodyPost_ret (v := .agg #[uv a, uv b, uv c, uv d]) (results_cell_row rfl _ _ _ _ _ _ _ rfl (Blk.newAt (by simp) _ _) Try.underlying63 rfl (by kernel_rfl)) rfl ?_
    exact ⟨rfl, ba (ba (Below.refl _ _) _) _⟩
  · have z0 : ((i : Int) % 8 == 0) = false := by simp; omega
    have z1 : ((i : Int) % 8 == 4) = false := by simp; omega
    clear h1 h2
    go_enter Try.func84, Try.ntmps84
    go_wp2
    refine bodyPost_ret (v := .agg #[uv a, uv b, uv c, uv d]) (results_cell_row rfl _ _ _ _ _ _ _ rfl (Blk.newAt (by simp) _ _) Try.underlying63 rfl (by kernel_rfl)) rfl ?_
    exact ⟨rfl, ba (ba (Below.refl _ _) _) _⟩

set_option maxRecDepth 100000 in
set_option maxHeartbeats 1000000 in
theorem scr_box (a b c d : UInt8) (i gb : Nat) (w : World) (hx : Blk w gb 5 bxs) (h2 : i % 8 = 4) :
    Calls Try.prog 84 #[.agg #[uv a, uv b, uv c, uv d], .int .i64 (i : Int), .int .i64 8, .slice (some ⟨gb, 0, none⟩) 256 256] w fun e w' => e = .returned (.agg #[uv (box8 a), uv (box8 b), uv (box8 c), uv (box8 d)]) ∧ Below w.heap.size w w' := by
  have z0 : ((i : Int) % 8 == 0) = false := by simp; omega
  have z1 : ((i : Int) % 8 == 4) = true := by simp; omega
  have HX := Lib.hid hx
  have HC := Lib.hid (boxed_ex a b c d gb)
  generalize box8 a = a' at HC ⊢
  generalize box8 b = b' at HC ⊢
  generalize box8 c = c' at HC ⊢
  generalize box8 d = d' at HC ⊢
  clear h2 hx
  go_enter Try.func84, Try.ntmps84
  go_wp2_with fail
  refine (HC.out _ ((HX.out.alloc _).alloc _)).mono ?_
  rintro e w1 ⟨rfl, hb⟩
  have G := Lib.hid (((Blk.new w 63 #[uv a, uv b, uv c, uv d]).alloc (.cells #[.int .u8 0, .int .u8 0, .int .u8 0, .int .u8 0] 63)).below hb)
  have R := Lib.hid ((Blk.newAt (w := w.alloc (.cells #[uv a, uv b, uv c, uv d] 63)) (g := w.heap.size + 1) (by simp) 63 #[.int .u8 0, .int .u8 0, .int .u8 0, .int .u8 0]).below hb)
  have hb1 : Below w.heap.size w w1 := bt (ba (ba (Below.refl _ _) _) _) hb
  clear hb HX HC
  have HONE := Lib.hid (uvs_one [a', b', c', d'])
  have HG2 := Lib.hid (G.out.whole ([a', b', c', d'].map uv) (by simp))
  have HR2 := Lib.hid (R.out.far_ (k := w.heap.size + 1) (g := w.heap.size) (by omega) 0 ([a', b', c', d'].map uv))
  simp only []
  go_upto_region 6 with (refine wpList_store_mid rfl _ _ _ rfl _ _ ([a', b', c', d'].map uv).toArray rfl rfl (G.out.there (by simp)) (by kernel_rfl) (all_oneCell_toArray HONE.out) ?_)
  generalize hw2 : World.setCells w1 w.heap.size 0 _ = w2
  rw [hw2] at HG2 HR2
  have hb2 : Below w.heap.size w w2 := by rw [← hw2]; exact bw hb1 (Nat.le_refl _) _ _
  clear hw2 G R hb1
  go_wp2_with (first | (refine wpList_load_row rfl _ _ rfl _ rfl _ _ _ _ HG2.out Try.underlying63 rfl (by kernel_rfl) ?_) | (refine wpList_store_mid rfl _ _ _ rfl _ _ ([a', b', c', d'].map uv).toArray rfl rfl (HR2.out.there (by simp)) (by kernel_rfl) (all_oneCell_toArray HONE.out) ?_))
  have hW := HR2.out.whole ([a', b', c', d'].map uv) (by simp)
  refine bodyPost_ret (v := .agg ([a', b', c', d'].map uv).toArray) (results_cell_row rfl _ _ _ _ _ _ _ rfl hW Try.underlying63 rfl (by kernel_rfl)) rfl ?_
  exact ⟨rfl, bw hb2 (by omega) _ _⟩

end Go.Proofs.Ytnifgfnocdffcaa
