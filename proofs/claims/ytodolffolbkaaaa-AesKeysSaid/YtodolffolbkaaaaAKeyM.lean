/- A key's words in plain lists; rows of words in memory, made and filled. Nothing of any function. -/
import Derived.Test.YtodolffolbkaaaaAMath
import Derived.Test.YtodolffolbkaaaaACopy
import Derived.Deep.RegionLaw
namespace Go.Proofs.Ytodolffolbkaaaa
open Go.RowKit

theorem ub_append_left {A B : List UInt8} {p : Nat} (h : p < A.length) : ub (A ++ B) p = ub A p := by simp [ub, List.getD, List.getElem?_append_left h]
theorem ub_append_right {A B : List UInt8} {p : Nat} (h : A.length ≤ p) : ub (A ++ B) p = ub B (p - A.length) := by simp [ub, List.getD, List.getElem?_append_right h]
theorem ub_drop (L : List UInt8) (m p : Nat) : ub (L.drop m) p = ub L (m + p) := by simp [ub, List.getD]
theorem ub_take {L : List UInt8} {m p : Nat} (h : p < m) : ub (L.take m) p = ub L p := by simp [ub, List.getD, h]
/-- What has been made of a key stays. -/
theorem kwN_stays (key : List UInt8) (own : Nat) (h : key.length = 4 * own) (j m p : Nat) (hj : j ≤ m) (hp : p < 4 * (own + j)) : ub (kwN key own m) p = ub (kwN key own j) p := by
  induction m with
  | zero => obtain rfl : j = 0 := by omega
            rfl
  | succ m ih =>
    by_cases he : j = m + 1
    · subst he; rfl
    · rw [← ih (by omega), kwN, ub_append_left]
      rw [kwN_len key own h]; omega
theorem colG_eq {A B : List UInt8} {c : Nat} (h : ∀ r, r < 4 → ub A (4 * c + r) = ub B (4 * c + r)) : colG A c = colG B c := tab_ext h
theorem keysF_key (key : List UInt8) (h : key.length = 16 ∨ key.length = 32) (p : Nat) (hp : p < key.length) : ub (keysF key) p = ub key p :=
  kwN_stays key _ (by omega) 0 _ p (by omega) (by omega)
theorem ub_colG (G : List UInt8) (c : Nat) {r : Nat} (h : r < 4) : ub (colG G c) r = ub G (4 * c + r) := ub_tab _ h
/-- Each word behind the key's own is made as the document says. -/
theorem keysF_word (key : List UInt8) (h : key.length = 16 ∨ key.length = 32) (i : Nat) (h1 : key.length / 4 ≤ i) (h2 : i < 4 * (key.length / 4 + 7)) :
    colG (keysF key) i = nextW (keysF key) i (key.length / 4) := by
  obtain ⟨own, ho⟩ : ∃ own, key.length / 4 = own := ⟨_, rfl⟩
  have hl : key.length = 4 * own := by omega
  unfold keysF
  rw [ho] at h1 h2 ⊢
  obtain ⟨j, rfl⟩ : ∃ j, i = own + j := ⟨i - own, by omega⟩
  have hS := fun p hp => kwN_stays key own hl j (3 * own + 28) p (by omega) hp
  have hS1 := fun p hp => kwN_stays key own hl (j + 1) (3 * own + 28) p (by omega) hp
  have hL := kwN_len key own hl j
  have e1 : colG (kwN key own (3 * own + 28)) (own + j - own) = colG (kwN key own j) (own + j - own) := colG_eq fun r hr => hS _ (by omega)
  have e2 : colG (kwN key own (3 * own + 28)) (own + j - 1) = colG (kwN key own j) (own + j - 1) := colG_eq fun r hr => hS _ (by omega)
  have e3 : nextW (kwN key own (3 * own + 28)) (own + j) own = nextW (kwN key own j) (own + j) own := by unfold nextW; rw [e1, e2]
  rw [e3]
  apply list_ext (n := 4) (tab_len _ _) (nextW_len _ _ _)
  intro r hr
  refine (ub_colG _ _ hr).trans ?_
  rw [hS1 _ (by omega), kwN, ub_append_right (by omega), hL]
  congr 1
  omega
/-- A word's four bytes. -/
theorem colG_four (F : List UInt8) (c : Nat) : colG F c = [ub F (4 * c), ub F (4 * c + 1), ub F (4 * c + 2), ub F (4 * c + 3)] := rfl

/-- A row of zeros. -/
def zerosL (n : Nat) : List UInt8 := List.replicate n 0
theorem zerosL_len (n : Nat) : (zerosL n).length = n := by simp [zerosL]
theorem put4 {w : World} {g : Nat} {t : TypeId} {N M : List UInt8} {n k : Nat} (h : Blk w g t ((cutL k N M).map uv).toArray) (hn : N.length = n) (hm : M.length = n) (hk : k + 4 ≤ n) :
    Blk (w.setCells g k [uv (ub N k), uv (ub N (k + 1)), uv (ub N (k + 2)), uv (ub N (k + 3))]) g t ((cutL (k + 4) N M).map uv).toArray := by
  have := (((h.set_ k (uv (ub N k))).set_ (k + 1) (uv (ub N (k + 1)))).set_ (k + 2) (uv (ub N (k + 2)))).set_ (k + 3) (uv (ub N (k + 3)))
  rw [cutL_set4 hn hm hk] at this
  exact this
theorem infoW : (Try.prog.info? 43).map (fun i => (i.zero, i.size, i.bytes)) = some (some (.agg #[.int .u8 0, .int .u8 0, .int .u8 0, .int .u8 0]), 4, 4) := by kernel_rfl
theorem infoG : (Try.prog.info? 45).map (fun i => (i.zero, i.size, i.bytes)) = some (some (.agg #[.int .u8 0, .int .u8 0, .int .u8 0, .int .u8 0, .int .u8 0, .int .u8 0, .int .u8 0, .int .u8 0, .int .u8 0, .int .u8 0, .int .u8 0, .int .u8 0, .int .u8 0, .int .u8 0, .int .u8 0, .int .u8 0]), 16, 16) := by kernel_rfl
theorem made_zeros (z : Array Value) (s n : Nat) (hs : z.size = s) (h0 : 0 < s) (hz : ∀ i, i < s → z[i]? = some (uv 0)) : madeCells z (n * s) = ((zerosL (n * s)).map uv).toArray := by
  apply Array.ext
  · simp [size_madeCells, zerosL]
  · intro i h1 h2
    have hi : i % s < z.size := by rw [hs]; exact Nat.mod_lt _ h0
    have := hz (i % s) (Nat.mod_lt _ h0)
    rw [Array.getElem?_eq_getElem hi] at this
    have e := Option.some.inj this
    rw [← getElem!_pos z (i % s) hi] at e
    simp [madeCells, zerosL, hs, e]
theorem make_words (n : Nat) (hn : n ≤ 65536) (W : World) : (Instr.makeSlice 59 (.int .i64 0) (.int .i64 (n : Int))).run Try.prog W = .ok (.slice (some ⟨W.heap.size, 0, none⟩) 0 n) (W.alloc (.cells ((zerosL (n * 4)).map uv).toArray 43)) := by
  obtain ⟨i0, hi, hz0, hz1, hz2⟩ := info_parts infoW
  have h := run_makeSlice (P := Try.prog) W 59 43 i0 _ Try.underlying59 hi hz0 .i64 .i64 0 n (by omega) (by omega) (by rw [hz1]; omega) (by rw [hz2]; omega) (by omega)
  rw [hz1, made_zeros _ 4 _ rfl (by omega) (fun i hi => by
    obtain rfl | rfl | rfl | rfl : i = 0 ∨ i = 1 ∨ i = 2 ∨ i = 3 := by omega
    all_goals rfl)] at h
  exact h
theorem make_grids (n : Nat) (hn : n ≤ 65536) (W : World) : (Instr.makeSlice 38 (.int .i64 (n : Int)) (.int .i64 (n : Int))).run Try.prog W = .ok (.slice (some ⟨W.heap.size, 0, none⟩) n n) (W.alloc (.cells ((zerosL (n * 16)).map uv).toArray 45)) := by
  obtain ⟨i0, hi, hz0, hz1, hz2⟩ := info_parts infoG
  have h := run_makeSlice (P := Try.prog) W 38 45 i0 _ Try.underlying38 hi hz0 .i64 .i64 n n (by omega) (by omega) (by rw [hz1]; omega) (by rw [hz2]; omega) (by omega)
  rw [hz1, made_zeros _ 16 _ rfl (by omega) (fun i hi => by
    obtain rfl | rfl | rfl | rfl | rfl | rfl | rfl | rfl | rfl | rfl | rfl | rfl | rfl | rfl | rfl | rfl : i = 0 ∨ i = 1 ∨ i = 2 ∨ i = 3 ∨ i = 4 ∨ i = 5 ∨ i = 6 ∨ i = 7 ∨ i = 8 ∨ i = 9 ∨ i = 10 ∨ i = 11 ∨ i = 12 ∨ i = 13 ∨ i = 14 ∨ i = 15 := by omega
    all_goals rfl)] at h
  exact h

/-- append where there is room, in a region that does not draw. -/
theorem wpList_append_room {P : Program} {ops : Array Oper} {rest : List Oper} {o : Oper} {a : Act} {w : World} {Q : Exit → Act → World → Prop} (hg : o.guard = none) (s x : Operand) (t : TypeId)
    (hop : o.op = Op.call { callee := Callee.builtin Builtin.append, args := #[s, x], argTypes := #[t, t] })
    (e : TypeId) (i : TypeInfo) (size : Nat) (h1 : P.underlying t = some (.slice e)) (h2 : P.info? e = some i) (h4 : i.size = size)
    (b off n cap : Nat) (hs : a.eval s = .slice (some ⟨b, off, none⟩) n cap)
    (ad : Addr) (m c : Nat) (news : List Value) (hx : a.eval x = .slice (some ad) m c) (hn : news.length = m * size) (hc : ∀ j u, news[j]? = some u → w.cell? (ad.add j) = some u) (h1c : ∀ u ∈ news, u.oneCell' = true)
    (hroom : n + m ≤ cap) (hspare : ∀ j, j < news.length → (w.cell? ⟨b, off + n * size + j, none⟩).isSome = true ∧ w.frozen? ⟨b, off + n * size + j, none⟩ = false)
    (h : wpList P ops Q rest (a.put o.dst (.slice (some ⟨b, off, none⟩) (n + m) cap)) (w.setCells b (off + n * size) news)) : wpList P ops Q (o :: rest) a w :=
  wpList_plain hg fun _ hK => by
    have := step_append_room (ops := ops) (E := True) (Q := Q) hg s x t hop e i size h1 h2 h4 b off n cap hs ad m c news hx hn hc h1c hroom hspare (hK _ _ h)
    rw [if_pos (by simp [Region.wanted, hg])] at this
    exact this
theorem extract_drop (l : List UInt8) (m n : Nat) (h : l.length = n) : (⟨l.toArray⟩ : ByteArray).extract m n = ⟨(l.drop m).toArray⟩ := by
  apply ByteArray.ext
  apply Array.toList_inj.1
  rw [Lib.extract_data]
  subst h
  simp
  exact List.take_of_length_le (by simp)
theorem Blk.spare {w : World} {g : Nat} {t : TypeId} {cs : Array Value} (h : Blk w g t cs) {o n : Nat} (hn : o + n ≤ cs.size) : ∀ j, j < n → (w.cell? ⟨g, o + j, none⟩).isSome = true ∧ w.frozen? ⟨g, o + j, none⟩ = false := fun j hj => by
  refine ⟨?_, h.frozen _⟩
  rw [h.cell]
  have : o + j < cs.size := by omega
  simp [this]
theorem uvs_size (L : List UInt8) : ((L.map uv).toArray).size = L.length := by simp
/-- So many bytes of a row are known. -/
def Kn (W : World) (g : Nat) (N : List UInt8) (m : Nat) : Prop := ∀ p, p < m → W.cell? ⟨g, p, none⟩ = some (uv (ub N p))
theorem Kn.later {W W' : World} {g m : Nat} {N : List UInt8} (h : Kn W g N m) (hb : Below W.heap.size W W') : Kn W' g N m := fun p hp => cell_later hb (h p hp)
theorem Kn.drew {W : World} {g m : Nat} {N : List UInt8} (h : Kn W g N m) : Kn W.drew g N m := h
theorem Kn.le {W : World} {g m n : Nat} {N : List UInt8} (h : Kn W g N m) (hn : n ≤ m) : Kn W g N n := fun p hp => h p (by omega)
theorem kn_of {W : World} {g : Nat} {t : TypeId} {N M : List UInt8} {n k : Nat} (h : Blk W g t ((cutL k N M).map uv).toArray) (hn : N.length = n) (hm : M.length = n) (hk : k ≤ n) : Kn W g N k := fun p hp => by
  rw [h.cell, row_at (by rw [cutL_len hn hm hk]; omega), ub_cutL hn hm hk (by omega), if_pos hp]
theorem scrW_len (a b c d : UInt8) (i own : Nat) : (scrW [a, b, c, d] i own).length = 4 := by
  unfold scrW
  split
  · rfl
  · split
    · exact tab_len _ _
    · rfl
theorem cut_copy {N M : List UInt8} {n o : Nat} (hn : N.length = n) (hm : M.length = n) (h : o + 16 ≤ n) :
    (((cutL o N M).map uv).toArray.toList.take o ++ (((N.drop o).take 16).map uv) ++ ((cutL o N M).map uv).toArray.toList.drop (o + 16)).toArray = ((cutL (o + 16) N M).map uv).toArray := by
  congr 1
  rw [List.toList_toArray, ← List.map_take, ← List.map_drop, ← List.map_append, ← List.map_append]
  congr 1
  have l1 : (N.take o).length = o := by rw [List.length_take]; omega
  have e1 : (cutL o N M).take o = N.take o := by
    unfold cutL
    rw [List.take_append_of_le_length (by omega), List.take_of_length_le (by omega)]
  have e2 : (cutL o N M).drop (o + 16) = M.drop (o + 16) := by
    unfold cutL
    rw [List.drop_append, List.drop_of_length_le (by omega), List.nil_append, l1, List.drop_drop]
    congr 1
    omega
  rw [e1, e2, cutL, List.take_add]
end Go.Proofs.Ytodolffolbkaaaa
