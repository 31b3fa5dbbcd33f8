/- Texts of this seat, one behind the other: AMath0, AMem, AMath, ACopy, AKeyM, AWord, AWordB, AMixW. -/
import Derived.Lib.BufferWrite
import Derived.Laws.CopyRow
import Derived.Deep.RegionLaw
import Derived.Test.YtcecjoodlmpgnaaGreatQ04
import Derived.Test.YtcecjoodlmpgnaaGreatQ13
/- Blocks, words and keys in plain lists of bytes: nothing of the program. -/
namespace Go.Proofs.YtcecjoodlmpgnaaGreat

/-- A byte's box, product, and a power of 2. -/
def box8 (b : UInt8) : UInt8 := UInt8.ofNat (box b.toNat)
def mul8 (a b : UInt8) : UInt8 := UInt8.ofNat (cm a.toNat b.toNat)
def pw8 (n : Nat) : UInt8 := UInt8.ofNat (pw 2 n)
theorem ofNat_nat {n : Nat} (h : n < 256) : (UInt8.ofNat n).toNat = n := by simp; omega
theorem box8_nat (b : UInt8) : (box8 b).toNat = box b.toNat := ofNat_nat (box_lt b.toNat_lt)
theorem mul8_nat (a b : UInt8) : (mul8 a b).toNat = cm a.toNat b.toNat := ofNat_nat (cm_lt _ a.toNat_lt)
theorem pw8_nat (n : Nat) : (pw8 n).toNat = pw 2 n := ofNat_nat (pw_lt (by omega) n)
theorem box8_inj {a b : UInt8} (h : box8 a = box8 b) : a = b := by
  apply UInt8.toNat_inj.1
  exact box_inj a.toNat_lt b.toNat_lt (by rw [← box8_nat, ← box8_nat, h])
def mixB (a b c d : UInt8) : UInt8 := mul8 a 2 ^^^ mul8 b 3 ^^^ c ^^^ d
def xorW (A B : List UInt8) : List UInt8 := tab 4 fun i => ub A i ^^^ ub B i
def boxW (A : List UInt8) : List UInt8 := tab 4 fun i => box8 (ub A i)
def mixW (A : List UInt8) : List UInt8 := tab 4 fun r => mixB (ub A r) (ub A ((r + 1) % 4)) (ub A ((r + 2) % 4)) (ub A ((r + 3) % 4))
/-- A block's column, or a key's word. -/
def colG (G : List UInt8) (c : Nat) : List UInt8 := tab 4 fun r => ub G (4 * c + r)
def boxG (G : List UInt8) : List UInt8 := tab 16 fun i => box8 (ub G i)
def turnG (G : List UInt8) : List UInt8 := tab 16 fun i => ub G (4 * ((i / 4 + i % 4) % 4) + i % 4)
def mixG (G : List UInt8) : List UInt8 := tab 16 fun i => ub (mixW (colG G (i / 4))) (i % 4)
def keyG (G K : List UInt8) : List UInt8 := tab 16 fun i => ub G i ^^^ ub K i
theorem boxG_len (G : List UInt8) : (boxG G).length = 16 := tab_len _ _
theorem turnG_len (G : List UInt8) : (turnG G).length = 16 := tab_len _ _
theorem mixG_len (G : List UInt8) : (mixG G).length = 16 := tab_len _ _
theorem keyG_len (G K : List UInt8) : (keyG G K).length = 16 := tab_len _ _

/-- The word ahead of word i, as word i is made of it. -/
def scrW (W : List UInt8) (i own : Nat) : List UInt8 :=
  if i % own = 0 then [box8 (ub W 1) ^^^ pw8 (i / own - 1), box8 (ub W 2), box8 (ub W 3), box8 (ub W 0)]
  else if own = 8 ∧ i % own = 4 then boxW W else W
def nextW (F : List UInt8) (i own : Nat) : List UInt8 := xorW (colG F (i - own)) (scrW (colG F (i - 1)) i own)
/-- A key's bytes, and so many words behind them. -/
def kwN (key : List UInt8) (own : Nat) : Nat → List UInt8
  | 0 => key
  | j + 1 => kwN key own j ++ nextW (kwN key own j) (own + j) own
theorem nextW_len (F : List UInt8) (i own : Nat) : (nextW F i own).length = 4 := tab_len _ _
theorem kwN_len (key : List UInt8) (own : Nat) (h : key.length = 4 * own) (j : Nat) : (kwN key own j).length = 4 * (own + j) := by
  induction j with
  | zero => exact h
  | succ j ih => rw [kwN, List.length_append, ih, nextW_len]; omega
/-- All of a key's round keys, one behind the other. -/
def keysF (key : List UInt8) : List UInt8 := kwN key (key.length / 4) (3 * (key.length / 4) + 28)
def keyAt (F : List UInt8) (i : Nat) : List UInt8 := tab 16 fun j => ub F (16 * i + j)
def roundE (last : Nat) (F s : List UInt8) (i : Nat) : List UInt8 :=
  if i = 0 then keyG s (keyAt F 0)
  else if i = last then keyG (turnG (boxG s)) (keyAt F i)
  else keyG (mixG (turnG (boxG s))) (keyAt F i)
def encN (last : Nat) (F s : List UInt8) : Nat → List UInt8
  | 0 => s
  | k + 1 => roundE last F (encN last F s k) k
def encL (key block : List UInt8) : List UInt8 := encN (key.length / 4 + 6) (keysF key) block (key.length / 4 + 7)
theorem roundE_len (last : Nat) (F s : List UInt8) (i : Nat) : (roundE last F s i).length = 16 := by
  unfold roundE
  split
  · exact keyG_len _ _
  · split <;> exact keyG_len _ _
theorem encN_len (last : Nat) (F s : List UInt8) (h : s.length = 16) (k : Nat) : (encN last F s k).length = 16 := by
  cases k with
  | zero => exact h
  | succ k => exact roundE_len _ _ _ _
theorem keysF_len (key : List UInt8) (h : key.length = 16 ∨ key.length = 32) : (keysF key).length = 16 * (key.length / 4 + 7) := by
  rw [keysF, kwN_len _ _ (by omega)]
  omega
end Go.Proofs.YtcecjoodlmpgnaaGreat
/- Words for what stage 6's functions do: XAMem0, and the boxes' texts. -/

/- The boxes' table, by its places. -/
namespace Go.Proofs.YtcecjoodlmpgnaaGreat

theorem boxT_at (b : UInt8) : ((boxT.map bv).toArray)[b.toNat]? = some (uv (box8 b)) := by
  have hl : boxT.length = 256 := by decide +kernel
  have hb := b.toNat_lt
  have h1 : (box8 b).toNat = boxT.getD b.toNat 0 := box8_nat b
  generalize boxT = T at hl h1
  have this : T[b.toNat]'(by omega) = (box8 b).toNat := by rw [h1]; simp [List.getD, hl, hb]
  simp [hl, hb, this, bv]
end Go.Proofs.YtcecjoodlmpgnaaGreat
/- What copy does: a text's first bytes into a word; words into a grid. Nothing of any function. -/
namespace Go.Proofs.YtcecjoodlmpgnaaGreat
open Go.RowKit

theorem info8 : (Tryz.prog.info? 5).map (·.size) = some 1 := by kernel_rfl
theorem info8s : (Tryz.prog.info? 89).map (·.size) = some 4 := by kernel_rfl
theorem Blk.setRow {w : World} {g : Nat} {t : TypeId} {cs : Array Value} (h : Blk w g t cs) (cs' : Array Value) : Blk (w.setRow g cs') g t cs' := setRow_heap w g cs cs' t _ h
theorem Blk.setRow_far {w : World} {g k : Nat} {t : TypeId} {cs : Array Value} (h : Blk w k t cs) (hk : k ≠ g) (cs' : Array Value) : Blk (w.setRow g cs') k t cs := (setRow_other _ _ _ _ hk).trans h
theorem below_setRow {B g : Nat} {w w1 : World} (h : Below B w w1) (hg : B ≤ g) (cs : Array Value) : Below B w (w1.setRow g cs) :=
  h.trans ⟨rfl, rfl, rfl, by simp [World.setRow], fun k hk => setRow_other _ _ _ _ (by omega)⟩

/-- A text that is longer than the row: so many of its bytes. -/
theorem copy_text (w : World) (g n : Nat) (l : List UInt8) (cur : Array Value) (t : TypeId) (hg : Blk w g t cur) (hn : n ≤ l.length) (hc : cur.size = n) :
    (Builtin.copy_ #[64, 9] 3 #[.slice (some ⟨g, 0, none⟩) n n, .string ⟨l.toArray⟩]).run Tryz.prog w = .ok (goInt n) (w.setRow g ((l.take n).map uv).toArray) := by
  have hlen : ((l.take n).map uv).length = n := by rw [List.length_map, List.length_take]; omega
  have hst := run_storeCells_at Tryz.prog g 0 t ((l.take n).map uv) 0 cur w hg (by rw [hlen]; omega) (uvs_one _)
  have hmin : Nat.min (⟨l.toArray⟩ : ByteArray).size n = n := by rw [size_of]; exact Nat.min_eq_right hn
  have htk : List.take n (List.map (fun b : UInt8 => Value.int IntKind.u8 (b.toNat : Int)) l) = (l.take n).map uv := by rw [List.map_take]
  have hdr : cur.toList.drop n = [] := List.drop_of_length_le (by simp [hc])
  rw [hlen] at hst
  simp only [Nat.add_zero, Nat.zero_add, List.take_zero, List.nil_append, hdr, List.append_nil] at hst
  cases hq : Tryz.prog.info? 5 with
  | none => have := info8; simp [hq] at this
  | some i =>
    simp [Builtin.copy_, run_underlying Tryz.underlying64, Builtin.lenOf, Builtin.firstCells, sizeOf, typeInfo, hq, hmin]
    rw [← List.map_take]
    rw [hst]
    simp [Result.andThen]

/-- Four words out of a row of them into a grid of a row of grids. -/
theorem copy_words (w : World) (g o q s n m : Nat) (L : List UInt8) (cur : Array Value) (t t' : TypeId) (hg : Blk w g t cur) (hq : Blk w q t' (L.map uv).toArray) (hn : 4 ≤ n) (hs : s + 16 ≤ L.length) (hfit : o + 16 ≤ cur.size) :
    (Builtin.copy_ #[129, 129] 3 #[.slice (some ⟨g, o, none⟩) 4 4, .slice (some ⟨q, s, none⟩) n m]).run Tryz.prog w =
      .ok (goInt 4) (w.setRow g (cur.toList.take o ++ (((L.drop s).take 16).map uv) ++ cur.toList.drop (o + 16)).toArray) := by
  have hlen : (((L.drop s).take 16).map uv).length = 16 := by rw [List.length_map, List.length_take, List.length_drop]; omega
  have hl := run_loadCells_list (P := Tryz.prog) w ⟨q, s, none⟩ (((L.drop s).take 16).map uv) (fun j v hv => by
    have hj : j < 16 := by have := (List.getElem?_eq_some_iff.1 hv).1; omega
    rw [Addr.add_mid, hq.cell]
    rw [← hv]
    simp [hj])
  have hst := run_storeCells_at Tryz.prog g o t (((L.drop s).take 16).map uv) 0 cur w hg (by rw [hlen]; omega) (uvs_one _)
  rw [hlen] at hl hst
  simp only [Nat.add_zero] at hst
  have hmin : Nat.min n 4 = 4 := Nat.min_eq_right hn
  cases hq : Tryz.prog.info? 89 with
  | none => have := info8s; simp [hq] at this
  | some i =>
    have hi : i.size = 4 := by have := info8s; simpa [hq] using this
    simp [Builtin.copy_, run_underlying Tryz.underlying129, Builtin.lenOf, Builtin.firstCells, sizeOf, typeInfo, hq, hi, hmin]
    rw [← List.map_drop, ← List.map_take, hl]
    simp only [Result.andThen_ok]
    rw [hst]
    simp [Result.andThen]
end Go.Proofs.YtcecjoodlmpgnaaGreat
/- A key's words in plain lists; rows of words in memory, made and filled. Nothing of any function. -/
namespace Go.Proofs.YtcecjoodlmpgnaaGreat
open Go.RowKit

theorem ub_append_left {A B : List UInt8} {p : Nat} (h : p < A.length) : ub (A ++ B) p = ub A p := by simp [ub, List.getD, List.getElem?_append_left h]
theorem ub_append_right {A B : List UInt8} {p : Nat} (h : A.length ≤ p) : ub (A ++ B) p = ub B (p - A.length) := by simp [ub, List.getD, List.getElem?_append_right h]
theorem ub_drop (L : List UInt8) (m p : Nat) : ub (L.drop m) p = ub L (m + p) := by simp [ub, List.getD]
theorem ub_take {L : List UInt8} {m p : Nat} (h : p < m) : ub (L.take m) p = ub L p := by simp [ub, List.getD, h]
/-- What has been made of a key stays. -/
theorem kwN_stays (key : List UInt8) (own : Nat) (h : key.length = 4 * own) (j m p : Nat) (hj : j ≤ m) (hp : p < 4 * (own + j)) : ub (kwN key own m) p = ub (kwN key own j) p := by
  induction m with
  | zero => obtain rfl : j = 0 := by omega
            rfl
  | succ m ih =>
    by_cases he : j = m + 1
    · subst he; rfl
    · rw [← ih (by omega), kwN, ub_append_left]
      rw [kwN_len key own h]; omega
theorem colG_eq {A B : List UInt8} {c : Nat} (h : ∀ r, r < 4 → ub A (4 * c + r) = ub B (4 * c + r)) : colG A c = colG B c := tab_ext h
theorem keysF_key (key : List UInt8) (h : key.length = 16 ∨ key.length = 32) (p : Nat) (hp : p < key.length) : ub (keysF key) p = ub key p :=
  kwN_stays key _ (by omega) 0 _ p (by omega) (by omega)
theorem ub_colG (G : List UInt8) (c : Nat) {r : Nat} (h : r < 4) : ub (colG G c) r = ub G (4 * c + r) := ub_tab _ h
/-- Each word behind the key's own is made as the document says. -/
theorem keysF_word (key : List UInt8) (h : key.length = 16 ∨ key.length = 32) (i : Nat) (h1 : key.length / 4 ≤ i) (h2 : i < 4 * (key.length / 4 + 7)) :
    colG (keysF key) i = nextW (keysF key) i (key.length / 4) := by
  obtain ⟨own, ho⟩ : ∃ own, key.length / 4 = own := ⟨_, rfl⟩
  have hl : key.length = 4 * own := by omega
  unfold keysF
  rw [ho] at h1 h2 ⊢
  obtain ⟨j, rfl⟩ : ∃ j, i = own + j := ⟨i - own, by omega⟩
  have hS := fun p hp => kwN_stays key own hl j (3 * own + 28) p (by omega) hp
  have hS1 := fun p hp => kwN_stays key own hl (j + 1) (3 * own + 28) p (by omega) hp
  have hL := kwN_len key own hl j
  have e1 : colG (kwN key own (3 * own + 28)) (own + j - own) = colG (kwN key own j) (own + j - own) := colG_eq fun r hr => hS _ (by omega)
  have e2 : colG (kwN key own (3 * own + 28)) (own + j - 1) = colG (kwN key own j) (own + j - 1) := colG_eq fun r hr => hS _ (by omega)
  have e3 : nextW (kwN key own (3 * own + 28)) (own + j) own = nextW (kwN key own j) (own + j) own := by unfold nextW; rw [e1, e2]
  rw [e3]
  apply list_ext (n := 4) (tab_len _ _) (nextW_len _ _ _)
  intro r hr
  refine (ub_colG _ _ hr).trans ?_
  rw [hS1 _ (by omega), kwN, ub_append_right (by omega), hL]
  congr 1
  omega
/-- A word's four bytes. -/
theorem colG_four (F : List UInt8) (c : Nat) : colG F c = [ub F (4 * c), ub F (4 * c + 1), ub F (4 * c + 2), ub F (4 * c + 3)] := rfl

/-- A row of zeros. -/
def zerosL (n : Nat) : List UInt8 := List.replicate n 0
theorem zerosL_len (n : Nat) : (zerosL n).length = n := by simp [zerosL]
theorem put4 {w : World} {g : Nat} {t : TypeId} {N M : List UInt8} {n k : Nat} (h : Blk w g t ((cutL k N M).map uv).toArray) (hn : N.length = n) (hm : M.length = n) (hk : k + 4 ≤ n) :
    Blk (w.setCells g k [uv (ub N k), uv (ub N (k + 1)), uv (ub N (k + 2)), uv (ub N (k + 3))]) g t ((cutL (k + 4) N M).map uv).toArray := by
  have := (((h.set_ k (uv (ub N k))).set_ (k + 1) (uv (ub N (k + 1)))).set_ (k + 2) (uv (ub N (k + 2)))).set_ (k + 3) (uv (ub N (k + 3)))
  rw [cutL_set4 hn hm hk] at this
  exact this
theorem infoW : (Tryz.prog.info? 89).map (fun i => (i.zero, i.size, i.bytes)) = some (some (.agg #[.int .u8 0, .int .u8 0, .int .u8 0, .int .u8 0]), 4, 4) := by kernel_rfl
theorem infoG : (Tryz.prog.info? 91).map (fun i => (i.zero, i.size, i.bytes)) = some (some (.agg #[.int .u8 0, .int .u8 0, .int .u8 0, .int .u8 0, .int .u8 0, .int .u8 0, .int .u8 0, .int .u8 0, .int .u8 0, .int .u8 0, .int .u8 0, .int .u8 0, .int .u8 0, .int .u8 0, .int .u8 0, .int .u8 0]), 16, 16) := by kernel_rfl
theorem made_zeros (z : Array Value) (s n : Nat) (hs : z.size = s) (h0 : 0 < s) (hz : ∀ i, i < s → z[i]? = some (uv 0)) : madeCells z (n * s) = ((zerosL (n * s)).map uv).toArray := by
  apply Array.ext
  · simp [size_madeCells, zerosL]
  · intro i h1 h2
    have hi : i % s < z.size := by rw [hs]; exact Nat.mod_lt _ h0
    have := hz (i % s) (Nat.mod_lt _ h0)
    rw [Array.getElem?_eq_getElem hi] at this
    have e := Option.some.inj this
    rw [← getElem!_pos z (i % s) hi] at e
    simp [madeCells, zerosL, hs, e]
theorem make_words (n : Nat) (hn : n ≤ 65536) (W : World) : (Instr.makeSlice 129 (.int .i64 0) (.int .i64 (n : Int))).run Tryz.prog W = .ok (.slice (some ⟨W.heap.size, 0, none⟩) 0 n) (W.alloc (.cells ((zerosL (n * 4)).map uv).toArray 89)) := by
  obtain ⟨i0, hi, hz0, hz1, hz2⟩ := info_parts infoW
  have h := run_makeSlice (P := Tryz.prog) W 129 89 i0 _ Tryz.underlying129 hi hz0 .i64 .i64 0 n (by omega) (by omega) (by rw [hz1]; omega) (by rw [hz2]; omega) (by omega)
  rw [hz1, made_zeros _ 4 _ rfl (by omega) (fun i hi => by
    obtain rfl | rfl | rfl | rfl : i = 0 ∨ i = 1 ∨ i = 2 ∨ i = 3 := by omega
    all_goals rfl)] at h
  exact h
theorem make_grids (n : Nat) (hn : n ≤ 65536) (W : World) : (Instr.makeSlice 94 (.int .i64 (n : Int)) (.int .i64 (n : Int))).run Tryz.prog W = .ok (.slice (some ⟨W.heap.size, 0, none⟩) n n) (W.alloc (.cells ((zerosL (n * 16)).map uv).toArray 91)) := by
  obtain ⟨i0, hi, hz0, hz1, hz2⟩ := info_parts infoG
  have h := run_makeSlice (P := Tryz.prog) W 94 91 i0 _ Tryz.underlying94 hi hz0 .i64 .i64 n n (by omega) (by omega) (by rw [hz1]; omega) (by rw [hz2]; omega) (by omega)
  rw [hz1, made_zeros _ 16 _ rfl (by omega) (fun i hi => by
    obtain rfl | rfl | rfl | rfl | rfl | rfl | rfl | rfl | rfl | rfl | rfl | rfl | rfl | rfl | rfl | rfl : i = 0 ∨ i = 1 ∨ i = 2 ∨ i = 3 ∨ i = 4 ∨ i = 5 ∨ i = 6 ∨ i = 7 ∨ i = 8 ∨ i = 9 ∨ i = 10 ∨ i = 11 ∨ i = 12 ∨ i = 13 ∨ i = 14 ∨ i = 15 := by omega
    all_goals rfl)] at h
  exact h

/-- append where there is room, in a region that does not draw. -/
theorem wpList_append_room {P : Program} {ops : Array Oper} {rest : List Oper} {o : Oper} {a : Act} {w : World} {Q : Exit → Act → World → Prop} (hg : o.guard = none) (s x : Operand) (t : TypeId)
    (hop : o.op = Op.call { callee := Callee.builtin Builtin.append, args := #[s, x], argTypes := #[t, t] })
    (e : TypeId) (i : TypeInfo) (size : Nat) (h1 : P.underlying t = some (.slice e)) (h2 : P.info? e = some i) (h4 : i.size = size)
    (b off n cap : Nat) (hs : a.eval s = .slice (some ⟨b, off, none⟩) n cap)
    (ad : Addr) (m c : Nat) (news : List Value) (hx : a.eval x = .slice (some ad) m c) (hn : news.length = m * size) (hc : ∀ j u, news[j]? = some u → w.cell? (ad.add j) = some u) (h1c : ∀ u ∈ news, u.oneCell' = true)
    (hroom : n + m ≤ cap) (hspare : ∀ j, j < news.length → (w.cell? ⟨b, off + n * size + j, none⟩).isSome = true ∧ w.frozen? ⟨b, off + n * size + j, none⟩ = false)
    (h : wpList P ops Q rest (a.put o.dst (.slice (some ⟨b, off, none⟩) (n + m) cap)) (w.setCells b (off + n * size) news)) : wpList P ops Q (o :: rest) a w :=
  wpList_plain hg fun _ hK => by
    have := step_append_room (ops := ops) (E := True) (Q := Q) hg s x t hop e i size h1 h2 h4 b off n cap hs ad m c news hx hn hc h1c hroom hspare (hK _ _ h)
    rw [if_pos (by simp [Region.wanted, hg])] at this
    exact this
theorem extract_drop (l : List UInt8) (m n : Nat) (h : l.length = n) : (⟨l.toArray⟩ : ByteArray).extract m n = ⟨(l.drop m).toArray⟩ := by
  apply ByteArray.ext
  apply Array.toList_inj.1
  rw [Lib.extract_data]
  subst h
  simp
  exact List.take_of_length_le (by simp)
theorem Blk.spare {w : World} {g : Nat} {t : TypeId} {cs : Array Value} (h : Blk w g t cs) {o n : Nat} (hn : o + n ≤ cs.size) : ∀ j, j < n → (w.cell? ⟨g, o + j, none⟩).isSome = true ∧ w.frozen? ⟨g, o + j, none⟩ = false := fun j hj => by
  refine ⟨?_, h.frozen _⟩
  rw [h.cell]
  have : o + j < cs.size := by omega
  simp [this]
theorem uvs_size (L : List UInt8) : ((L.map uv).toArray).size = L.length := by simp
/-- So many bytes of a row are known. -/
def Kn (W : World) (g : Nat) (N : List UInt8) (m : Nat) : Prop := ∀ p, p < m → W.cell? ⟨g, p, none⟩ = some (uv (ub N p))
theorem Kn.later {W W' : World} {g m : Nat} {N : List UInt8} (h : Kn W g N m) (hb : Below W.heap.size W W') : Kn W' g N m := fun p hp => cell_later hb (h p hp)
theorem Kn.drew {W : World} {g m : Nat} {N : List UInt8} (h : Kn W g N m) : Kn W.drew g N m := h
theorem Kn.le {W : World} {g m n : Nat} {N : List UInt8} (h : Kn W g N m) (hn : n ≤ m) : Kn W g N n := fun p hp => h p (by omega)
theorem kn_of {W : World} {g : Nat} {t : TypeId} {N M : List UInt8} {n k : Nat} (h : Blk W g t ((cutL k N M).map uv).toArray) (hn : N.length = n) (hm : M.length = n) (hk : k ≤ n) : Kn W g N k := fun p hp => by
  rw [h.cell, row_at (by rw [cutL_len hn hm hk]; omega), ub_cutL hn hm hk (by omega), if_pos hp]
theorem scrW_len (a b c d : UInt8) (i own : Nat) : (scrW [a, b, c, d] i own).length = 4 := by
  unfold scrW
  split
  · rfl
  · split
    · exact tab_len _ _
    · rfl
theorem cut_copy {N M : List UInt8} {n o : Nat} (hn : N.length = n) (hm : M.length = n) (h : o + 16 ≤ n) :
    (((cutL o N M).map uv).toArray.toList.take o ++ (((N.drop o).take 16).map uv) ++ ((cutL o N M).map uv).toArray.toList.drop (o + 16)).toArray = ((cutL (o + 16) N M).map uv).toArray := by
  congr 1
  rw [List.toList_toArray, ← List.map_take, ← List.map_drop, ← List.map_append, ← List.map_append]
  congr 1
  have l1 : (N.take o).length = o := by rw [List.length_take]; omega
  have e1 : (cutL o N M).take o = N.take o := by
    unfold cutL
    rw [List.take_append_of_le_length (by omega), List.take_of_length_le (by omega)]
  have e2 : (cutL o N M).drop (o + 16) = M.drop (o + 16) := by
    unfold cutL
    rw [List.drop_append, List.drop_of_length_le (by omega), List.nil_append, l1, List.drop_drop]
    congr 1
    omega
  rw [e1, e2, cutL, List.take_add]
end Go.Proofs.YtcecjoodlmpgnaaGreat
/- The contracts of a word's turned, xor and boxed. -/
namespace Go.Proofs.YtcecjoodlmpgnaaGreat
open Go.RowKit

theorem agg4_at (a b c d : UInt8) (k : Nat) (hk : k < 4) (W : World) : (Instr.index 89 (.agg #[uv a, uv b, uv c, uv d]) (.int .i64 (k : Int))).run Tryz.prog W = .ok (uv (ub [a, b, c, d] k)) W := by
  obtain rfl | rfl | rfl | rfl : k = 0 ∨ k = 1 ∨ k = 2 ∨ k = 3 := by omega
  all_goals kernel_rfl
theorem wlen {L : List UInt8} (h : L.length = 4) : (Tryz.prog.info? 89).map (·.size) = some ((L.map uv).toArray).size := by
  rw [List.size_toArray, List.length_map, h]; kernel_rfl
theorem wlen' {L : List UInt8} (h : L.length = 4) : (Tryz.prog.info? 89).map (·.size) = some ((L.map uv)).length := by
  rw [List.length_map, h]; kernel_rfl

set_option maxRecDepth 100000 in
set_option maxHeartbeats 1000000 in
theorem turned_any (a b c d : UInt8) (w : World) :
    Calls Tryz.prog 134 #[.agg #[uv a, uv b, uv c, uv d]] w fun e w' => e = .returned (.agg #[uv b, uv c, uv d, uv a]) ∧ Below w.heap.size w w' := by
  go_enter Tryz.func134, Tryz.ntmps134
  go_wp2
  refine bodyPost_ret (v := .agg #[uv b, uv c, uv d, uv a]) (results_cell_row rfl _ _ _ _ _ _ _ rfl (Blk.newAt (by simp) _ _) Tryz.underlying89 rfl (by kernel_rfl)) rfl ?_
  exact ⟨rfl, ba (ba (Below.refl _ _) _) _⟩

set_option maxRecDepth 100000 in
set_option maxHeartbeats 1000000 in
theorem xor_any (a b c d a' b' c' d' : UInt8) (w : World) :
    Calls Tryz.prog 120 #[.agg #[uv a, uv b, uv c, uv d], .agg #[uv a', uv b', uv c', uv d']] w fun e w' => e = .returned (.agg ((xorW [a, b, c, d] [a', b', c', d']).map uv).toArray) ∧ Below w.heap.size w w' := by
  have HI := Lib.hid (agg4_at a' b' c' d')
  have hA : [a, b, c, d].length = 4 := rfl
  have HA := Lib.hid hA
  have HN : Hid ((xorW [a, b, c, d] [a', b', c', d']).length = 4) := Lib.hid (tab_len _ _)
  have HU : Hid (∀ k, k < 4 → ub (xorW [a, b, c, d] [a', b', c', d']) k = ub [a, b, c, d] k ^^^ ub [a', b', c', d'] k) := Lib.hid fun k hk => ub_tab _ hk
  obtain ⟨N, hN⟩ : ∃ N, xorW [a, b, c, d] [a', b', c', d'] = N := ⟨_, rfl⟩
  rw [hN] at HN HU ⊢
  obtain ⟨B, hB⟩ : ∃ B, [a', b', c', d'] = B := ⟨_, rfl⟩
  rw [hB] at HI HU
  have H0 : Hid (((cutL 0 N [a, b, c, d]).map uv).toArray = #[uv a, uv b, uv c, uv d]) := Lib.hid (by rw [cutL_zero]; rfl)
  obtain ⟨A, hA'⟩ : ∃ A, [a, b, c, d] = A := ⟨_, rfl⟩
  rw [hA'] at HA HU H0
  clear hN hB hA' hA
  go_enter Tryz.func120, Tryz.ntmps120
  go_wp2_with fail
  go_loopw [8] (fun iv wr => ∃ k : Nat, k ≤ 4 ∧ iv = .int .i64 k ∧ Hid (Blk wr w.heap.size 89 ((cutL k N A).map uv).toArray) ∧ Hid (Blk wr (w.heap.size + 2) 89 #[uv 0, uv 0, uv 0, uv 0]) ∧ Below w.heap.size w wr) (fun iv _ => 4 - (intOf iv).toNat)
  case atStart =>
    refine ⟨0, by omega, rfl, Lib.hid ?_, Lib.hid ?_, ba (ba (ba (Below.refl _ _) _) _) _⟩
    · rw [H0.out]; exact ((Blk.new w _ _).alloc _).alloc _
    · exact Blk.newAt (by simp) _ _
  case round =>
    obtain ⟨k, hk, rfl, P, Z, hb⟩ := hrel
    by_cases hlt : k < 4
    · have hix := HI.out k hlt
      have hc := (P.out.cell k).trans (row_at (by rw [cutL_len HN.out HA.out hk]; exact hlt))
      rw [ub_cutL HN.out HA.out hk hlt, if_neg (Nat.lt_irrefl _)] at hc
      have hf := P.out.frozen k
      have hset := cutL_set HN.out HA.out hlt
      rw [HU.out k hlt] at hset
      have hx := xor_byte (ub A k) (ub B k)
      generalize ub A k = x at hc hset hx
      generalize ub B k = y at hix hset hx
      obtain ⟨z, hz⟩ : ∃ z, x ^^^ y = z := ⟨_, rfl⟩
      rw [hz] at hset hx
      have HS := Lib.hid hset
      have i0 : (0 : Int) ≤ (k : Int) := by omega
      have i1 : (k : Int) < 4 := by omega
      clear hset hz
      go_wp2
      exact ⟨⟨k + 1, by omega, by go_num, Lib.hid (by have := P.out.set_ k (uv z); rw [HS.out] at this; exact this), Lib.hid (Z.out.far (by simp) _), bs hb (by omega) _⟩, by simp [intOf]; omega⟩
    · obtain rfl : k = 4 := by omega
      have hP := P.out
      rw [cutL_all HN.out HA.out] at hP
      have HONE := Lib.hid (uvs_one N)
      have HZ := HN.out
      go_wp2_with (first | (refine wpList_load_row rfl _ _ rfl _ rfl _ _ _ _ hP Tryz.underlying89 rfl (wlen HN.out) ?_) | (refine wpList_store_mid rfl _ _ _ rfl _ _ (N.map uv).toArray rfl rfl (Z.out.there (by rw [List.size_toArray, List.length_map, HN.out]; exact Nat.le_refl 4)) (wlen HN.out) (all_oneCell_toArray HONE.out) ?_))
      have hW := Z.out.whole (N.map uv) (by rw [List.length_map, HN.out]; rfl)
      refine bodyPost_ret (v := .agg (N.map uv).toArray) (results_cell_row rfl _ _ _ _ _ _ _ rfl hW Tryz.underlying89 rfl (wlen HN.out)) rfl ?_
      exact ⟨rfl, bw hb (by omega) _ _⟩
end Go.Proofs.YtcecjoodlmpgnaaGreat
/- The contracts of a word's boxed, and of wordOf. -/
namespace Go.Proofs.YtcecjoodlmpgnaaGreat
open Go.RowKit

def bxs : Array Value := (boxT.map bv).toArray
theorem bxs_at (b : UInt8) : bxs[b.toNat]? = some (uv (box8 b)) := boxT_at b

set_option maxRecDepth 100000 in
set_option maxHeartbeats 1000000 in
theorem boxed_any (a b c d : UInt8) (gb : Nat) (w : World) (hx : Blk w gb 5 bxs) :
    Calls Tryz.prog 132 #[.agg #[uv a, uv b, uv c, uv d], .slice (some ⟨gb, 0, none⟩) 256 256] w fun e w' => e = .returned (.agg ((boxW [a, b, c, d]).map uv).toArray) ∧ Below w.heap.size w w' := by
  have HI := Lib.hid (agg4_at a b c d)
  have HA : Hid ([a, b, c, d].length = 4) := Lib.hid rfl
  have HN : Hid ((boxW [a, b, c, d]).length = 4) := Lib.hid (tab_len _ _)
  have HU : Hid (∀ k, k < 4 → ub (boxW [a, b, c, d]) k = box8 (ub [a, b, c, d] k)) := Lib.hid fun k hk => ub_tab _ hk
  obtain ⟨N, hN⟩ : ∃ N, boxW [a, b, c, d] = N := ⟨_, rfl⟩
  rw [hN] at HN HU ⊢
  have H0 : Hid (((cutL 0 N [a, b, c, d]).map uv).toArray = #[uv a, uv b, uv c, uv d]) := Lib.hid (by rw [cutL_zero]; rfl)
  obtain ⟨A, hA'⟩ : ∃ A, [a, b, c, d] = A := ⟨_, rfl⟩
  rw [hA'] at HA HU H0 HI
  clear hN hA'
  have HX := Lib.hid hx
  have HXA := Lib.hid bxs_at
  obtain ⟨X, hX⟩ : ∃ X, bxs = X := ⟨_, rfl⟩
  rw [hX] at HX HXA
  have hgb := hx.lt
  clear hx hX
  go_enter Tryz.func132, Tryz.ntmps132
  go_wp2_with fail
  go_loopw [8] (fun iv wr => ∃ k : Nat, k ≤ 4 ∧ iv = .int .i64 k ∧ Hid (Blk wr w.heap.size 89 ((cutL k N A).map uv).toArray) ∧ Hid (Blk wr (w.heap.size + 1) 89 #[uv 0, uv 0, uv 0, uv 0]) ∧ Below w.heap.size w wr) (fun iv _ => 4 - (intOf iv).toNat)
  case atStart =>
    refine ⟨0, by omega, rfl, Lib.hid ?_, Lib.hid ?_, ba (ba (Below.refl _ _) _) _⟩
    · rw [H0.out]; exact (Blk.new w _ _).alloc _
    · exact Blk.newAt (by simp) _ _
  case round =>
    obtain ⟨k, hk, rfl, P, Z, hb⟩ := hrel
    by_cases hlt : k < 4
    · have hix := HI.out k hlt
      have hf := P.out.frozen k
      have hset := cutL_set HN.out HA.out hlt
      rw [HU.out k hlt] at hset
      have hc := (P.out.cell k).trans (row_at (by rw [cutL_len HN.out HA.out hk]; exact hlt))
      generalize ub A k = x at hix hset
      have hbx := ((HX.out.below hb).cell x.toNat).trans (HXA.out x)
      have hx8 := x.toNat_lt
      generalize box8 x = z at hbx hset
      have HS := Lib.hid hset
      have i0 : (0 : Int) ≤ (k : Int) := by omega
      have i1 : (k : Int) < 4 := by omega
      clear hset
      go_wp2
      exact ⟨⟨k + 1, by omega, by go_num, Lib.hid (by have := P.out.set_ k (uv z); rw [HS.out] at this; exact this), Lib.hid (Z.out.far (by simp) _), bs hb (by omega) _⟩, by simp [intOf]; omega⟩
    · obtain rfl : k = 4 := by omega
      have hP := P.out
      rw [cutL_all HN.out HA.out] at hP
      have HONE := Lib.hid (uvs_one N)
      have HZ := HN.out
      go_wp2_with (first | (refine wpList_load_row rfl _ _ rfl _ rfl _ _ _ _ hP Tryz.underlying89 rfl (wlen HN.out) ?_) | (refine wpList_store_mid rfl _ _ _ rfl _ _ (N.map uv).toArray rfl rfl (Z.out.there (by rw [List.size_toArray, List.length_map, HN.out]; exact Nat.le_refl 4)) (wlen HN.out) (all_oneCell_toArray HONE.out) ?_))
      have hW := Z.out.whole (N.map uv) (by rw [List.length_map, HN.out]; rfl)
      refine bodyPost_ret (v := .agg (N.map uv).toArray) (results_cell_row rfl _ _ _ _ _ _ _ rfl hW Tryz.underlying89 rfl (wlen HN.out)) rfl ?_
      exact ⟨rfl, bw hb (by omega) _ _⟩

set_option maxRecDepth 100000 in
set_option maxHeartbeats 1000000 in
theorem wordOf_any (l : List UInt8) (w : World) (hl : 4 ≤ l.length) :
    Calls Tryz.prog 86 #[.string ⟨l.toArray⟩] w fun e w' => e = .returned (.agg #[uv (ub l 0), uv (ub l 1), uv (ub l 2), uv (ub l 3)]) ∧ Below w.heap.size w w' := by
  have hB : Blk ((w.alloc (.cells #[.int .u8 0, .int .u8 0, .int .u8 0, .int .u8 0] 89)).alloc (.cells #[.int .u8 0, .int .u8 0, .int .u8 0, .int .u8 0] 89)) (w.heap.size + 1) 89 #[.int .u8 0, .int .u8 0, .int .u8 0, .int .u8 0] := Blk.newAt (by simp) _ _
  have hR : Blk ((w.alloc (.cells #[.int .u8 0, .int .u8 0, .int .u8 0, .int .u8 0] 89)).alloc (.cells #[.int .u8 0, .int .u8 0, .int .u8 0, .int .u8 0] 89)) w.heap.size 89 #[.int .u8 0, .int .u8 0, .int .u8 0, .int .u8 0] := (Blk.new w _ _).alloc _
  have hcp := copy_text _ _ 4 l _ _ hB hl rfl
  have hbb : Below w.heap.size w ((w.alloc (.cells #[.int .u8 0, .int .u8 0, .int .u8 0, .int .u8 0] 89)).alloc (.cells #[.int .u8 0, .int .u8 0, .int .u8 0, .int .u8 0] 89)) := ba (ba (Below.refl _ _) _) _
  have htk : l.take 4 = [ub l 0, ub l 1, ub l 2, ub l 3] := list_ext (n := 4) (by rw [List.length_take]; omega) rfl (fun i hi => by
    rw [ub_at (by rw [List.length_take]; omega), List.getElem_take, ← ub_at]
    obtain rfl | rfl | rfl | rfl : i = 0 ∨ i = 1 ∨ i = 2 ∨ i = 3 := by omega
    all_goals rfl)
  rw [htk] at hcp
  generalize ub l 0 = a at hcp ⊢
  generalize ub l 1 = b at hcp ⊢
  generalize ub l 2 = c at hcp ⊢
  generalize ub l 3 = d at hcp ⊢
  have hB2 := hB.setRow ([a, b, c, d].map uv).toArray
  have hR2 := hR.setRow_far (k := w.heap.size) (g := w.heap.size + 1) (by omega) ([a, b, c, d].map uv).toArray
  have hbb2 := below_setRow hbb (g := w.heap.size + 1) (by omega) ([a, b, c, d].map uv).toArray
  obtain ⟨w2, hw2⟩ : ∃ w2, World.setRow ((w.alloc (.cells #[.int .u8 0, .int .u8 0, .int .u8 0, .int .u8 0] 89)).alloc (.cells #[.int .u8 0, .int .u8 0, .int .u8 0, .int .u8 0] 89)) (w.heap.size + 1) ([a, b, c, d].map uv).toArray = w2 := ⟨_, rfl⟩
  rw [hw2] at hcp hB2 hR2 hbb2
  have HB := Lib.hid hB2
  have HR := Lib.hid hR2
  clear hw2 hB hR hbb htk hB2 hR2
  go_enter Tryz.func86, Tryz.ntmps86
  go_wp2_with (first | (refine wpList_load_row rfl _ _ rfl _ rfl _ _ _ _ HB.out Tryz.underlying89 rfl (by kernel_rfl) ?_) | (refine wpList_store_mid rfl _ _ _ rfl _ _ ([a, b, c, d].map uv).toArray rfl rfl (HR.out.there (by simp)) (by kernel_rfl) (all_oneCell_toArray (uvs_one _)) ?_))
  have hW := HR.out.whole ([a, b, c, d].map uv) rfl
  refine bodyPost_ret (v := .agg ([a, b, c, d].map uv).toArray) (results_cell_row rfl _ _ _ _ _ _ _ rfl hW Tryz.underlying89 rfl (by kernel_rfl)) rfl ?_
  exact ⟨rfl, bw hbb2 (by omega) _ _⟩
end Go.Proofs.YtcecjoodlmpgnaaGreat
/- The contract of a word's mixed. -/
namespace Go.Proofs.YtcecjoodlmpgnaaGreat
open Go.RowKit

theorem mul8_any (a b : UInt8) (w : World) : Calls Tryz.prog 85 #[.int .u8 (a.toNat : Int), .int .u8 (b.toNat : Int)] w fun e w' => e = .returned (uv (mul8 a b)) ∧ w = w' := by
  have ha := a.toNat_lt
  have hb := b.toNat_lt
  refine (mul_any a.toNat b.toNat w (by omega) (by omega)).mono ?_
  rintro e w' ⟨rfl, rfl⟩
  rw [← mul8_nat]
  exact ⟨rfl, rfl⟩
theorem mul2_any (a : UInt8) (w : World) : Calls Tryz.prog 85 #[.int .u8 (a.toNat : Int), .int .u8 2] w fun e w' => e = .returned (uv (mul8 a 2)) ∧ w = w' := mul8_any a 2 w
theorem mul3_any (a : UInt8) (w : World) : Calls Tryz.prog 85 #[.int .u8 (a.toNat : Int), .int .u8 3] w fun e w' => e = .returned (uv (mul8 a 3)) ∧ w = w' := mul8_any a 3 w

set_option maxRecDepth 100000 in
set_option maxHeartbeats 4000000 in
theorem mixed_any (a b c d : UInt8) (w : World) :
    Calls Tryz.prog 133 #[.agg #[uv a, uv b, uv c, uv d]] w fun e w' => e = .returned (.agg ((mixW [a, b, c, d]).map uv).toArray) ∧ Below w.heap.size w w' := by
  have HZ : Hid (([0, 0, 0, 0] : List UInt8).length = 4) := Lib.hid rfl
  have HN : Hid ((mixW [a, b, c, d]).length = 4) := Lib.hid (tab_len _ _)
  have HU : Hid (∀ k, k < 4 → ub (mixW [a, b, c, d]) k = mixB (ub [a, b, c, d] k) (ub [a, b, c, d] ((k + 1) % 4)) (ub [a, b, c, d] ((k + 2) % 4)) (ub [a, b, c, d] ((k + 3) % 4))) := Lib.hid fun k hk => ub_tab _ hk
  obtain ⟨N, hN⟩ : ∃ N, mixW [a, b, c, d] = N := ⟨_, rfl⟩
  rw [hN] at HN HU ⊢
  have H0 : Hid (((cutL 0 N [0, 0, 0, 0]).map uv).toArray = #[uv 0, uv 0, uv 0, uv 0]) := Lib.hid (by rw [cutL_zero]; rfl)
  clear hN
  go_enter Tryz.func133, Tryz.ntmps133
  go_wp2_with fail
  go_loopw [9] (fun iv wr => ∃ k : Nat, k ≤ 4 ∧ iv = .int .i64 k ∧ Hid (Blk wr w.heap.size 89 #[uv a, uv b, uv c, uv d]) ∧ Hid (Blk wr (w.heap.size + 1) 89 #[uv 0, uv 0, uv 0, uv 0]) ∧ Hid (Blk wr (w.heap.size + 2) 89 ((cutL k N [0, 0, 0, 0]).map uv).toArray) ∧ Below w.heap.size w wr) (fun iv _ => 4 - (intOf iv).toNat)
  case atStart =>
    refine ⟨0, by omega, rfl, Lib.hid ?_, Lib.hid ?_, Lib.hid ?_, ba (ba (ba (Below.refl _ _) _) _) _⟩
    · exact ((Blk.new w _ _).alloc _).alloc _
    · exact (Blk.newAt (by simp) _ _).alloc _
    · rw [H0.out]; exact Blk.newAt (by simp) _ _
  case round =>
    obtain ⟨k, hk, rfl, A, Z, P, hb⟩ := hrel
    by_cases hlt : k < 4
    · have c0 := A.out.cell 0
      have c1 := A.out.cell 1
      have c2 := A.out.cell 2
      have c3 := A.out.cell 3
      simp only [List.getElem?_toArray, List.getElem?_cons_zero, List.getElem?_cons_succ] at c0 c1 c2 c3
      have hset := cutL_set HN.out HZ.out hlt
      rw [HU.out k hlt] at hset
      have hc := (P.out.cell k).trans (row_at (by rw [cutL_len HN.out HZ.out hk]; exact hlt))
      generalize ub (cutL k N [0, 0, 0, 0]) k = old at hc
      have hf := P.out.frozen k
      obtain rfl | rfl | rfl | rfl : k = 0 ∨ k = 1 ∨ k = 2 ∨ k = 3 := by omega
      · have hset' : (((cutL 0 N [0, 0, 0, 0]).map uv).toArray).setIfInBounds 0 (uv (mul8 a 2 ^^^ mul8 b 3 ^^^ c ^^^ d)) = ((cutL 1 N [0, 0, 0, 0]).map uv).toArray := hset
        obtain ⟨p, hp⟩ : ∃ p, mul8 a 2 = p := ⟨_, rfl⟩
        obtain ⟨q, hq⟩ : ∃ q, mul8 b 3 = q := ⟨_, rfl⟩
        have HM2 := Lib.hid (fun W => mul2_any a W)
        have HM3 := Lib.hid (fun W => mul3_any b W)
        rw [hp] at hset' HM2
        rw [hq] at hset' HM3
        have x1 := xor_byte p q
        have x2 := xor_byte (p ^^^ q) c
        have x3 := xor_byte (p ^^^ q ^^^ c) d
        generalize p ^^^ q = y at x1 x2 x3 hset'
        generalize y ^^^ c = z at x2 x3 hset'
        generalize z ^^^ d = t at x3 hset'
        have HS := Lib.hid hset'
        have HX1 := Lib.hid x1
        have HX2 := Lib.hid x2
        have HX3 := Lib.hid x3
        clear hset hset' hp hq x1 x2 x3 hlt hk
        go_wp2_with fail
        go_quiet (fail)
        clear c0 c1 c2 c3
        obtain ⟨w3, hw3⟩ := drewN_name wr nq
        rw [hw3]
        have A3 : Hid (Blk w3 w.heap.size 89 #[uv a, uv b, uv c, uv d]) := Lib.hid (by rw [← hw3]; exact A.out.drewN _)
        have Z3 : Hid (Blk w3 (w.heap.size + 1) 89 #[uv 0, uv 0, uv 0, uv 0]) := Lib.hid (by rw [← hw3]; exact Z.out.drewN _)
        have P3 : Hid (Blk w3 (w.heap.size + 2) 89 ((cutL 0 N [0, 0, 0, 0]).map uv).toArray) := Lib.hid (by rw [← hw3]; exact P.out.drewN _)
        have hb3 : Below w.heap.size w w3 := by rw [← hw3]; exact bdn' hb _
        have hc3 : w3.cell? ⟨w.heap.size + 2, 0, none⟩ = some (uv old) := by rw [← hw3]; exact hc
        have hf3 := P3.out.frozen 0
        clear hw3 A Z P hb hc hf
        have x1 := HX1.out
        have x2 := HX2.out
        have x3 := HX3.out
        go_wp2_with fail
        refine (HM2.out _).mono ?_
        rintro e w4 ⟨rfl, rfl⟩
        go_wp2_with fail
        refine (HM3.out _).mono ?_
        rintro e w4 ⟨rfl, rfl⟩
        go_wp2
        exact ⟨⟨1, by omega, by go_num, Lib.hid (A3.out.far (by simp; omega) _), Lib.hid (Z3.out.far (by simp) _), Lib.hid (by have := P3.out.set_ 0 (uv t); rw [HS.out] at this; exact this), bs hb3 (by omega) _⟩, by simp [intOf]⟩
      · have hset' : (((cutL 1 N [0, 0, 0, 0]).map uv).toArray).setIfInBounds 1 (uv (mul8 b 2 ^^^ mul8 c 3 ^^^ d ^^^ a)) = ((cutL 2 N [0, 0, 0, 0]).map uv).toArray := hset
        obtain ⟨p, hp⟩ : ∃ p, mul8 b 2 = p := ⟨_, rfl⟩
        obtain ⟨q, hq⟩ : ∃ q, mul8 c 3 = q := ⟨_, rfl⟩
        have HM2 := Lib.hid (fun W => mul2_any b W)
        have HM3 := Lib.hid (fun W => mul3_any c W)
        rw [hp] at hset' HM2
        rw [hq] at hset' HM3
        have x1 := xor_byte p q
        have x2 := xor_byte (p ^^^ q) d
        have x3 := xor_byte (p ^^^ q ^^^ d) a
        generalize p ^^^ q = y at x1 x2 x3 hset'
        generalize y ^^^ d = z at x2 x3 hset'
        generalize z ^^^ a = t at x3 hset'
        have HS := Lib.hid hset'
        have HX1 := Lib.hid x1
        have HX2 := Lib.hid x2
        have HX3 := Lib.hid x3
        clear hset hset' hp hq x1 x2 x3 hlt hk
        go_wp2_with fail
        go_quiet (fail)
        clear c0 c1 c2 c3
        obtain ⟨w3, hw3⟩ := drewN_name wr nq
        rw [hw3]
        have A3 : Hid (Blk w3 w.heap.size 89 #[uv a, uv b, uv c, uv d]) := Lib.hid (by rw [← hw3]; exact A.out.drewN _)
        have Z3 : Hid (Blk w3 (w.heap.size + 1) 89 #[uv 0, uv 0, uv 0, uv 0]) := Lib.hid (by rw [← hw3]; exact Z.out.drewN _)
        have P3 : Hid (Blk w3 (w.heap.size + 2) 89 ((cutL 1 N [0, 0, 0, 0]).map uv).toArray) := Lib.hid (by rw [← hw3]; exact P.out.drewN _)
        have hb3 : Below w.heap.size w w3 := by rw [← hw3]; exact bdn' hb _
        have hc3 : w3.cell? ⟨w.heap.size + 2, 1, none⟩ = some (uv old) := by rw [← hw3]; exact hc
        have hf3 := P3.out.frozen 1
        clear hw3 A Z P hb hc hf
        have x1 := HX1.out
        have x2 := HX2.out
        have x3 := HX3.out
        go_wp2_with fail
        refine (HM2.out _).mono ?_
        rintro e w4 ⟨rfl, rfl⟩
        go_wp2_with fail
        refine (HM3.out _).mono ?_
        rintro e w4 ⟨rfl, rfl⟩
        go_wp2
        exact ⟨⟨2, by omega, by go_num, Lib.hid (A3.out.far (by simp; omega) _), Lib.hid (Z3.out.far (by simp) _), Lib.hid (by have := P3.out.set_ 1 (uv t); rw [HS.out] at this; exact this), bs hb3 (by omega) _⟩, by simp [intOf]⟩
      · have hset' : (((cutL 2 N [0, 0, 0, 0]).map uv).toArray).setIfInBounds 2 (uv (mul8 c 2 ^^^ mul8 d 3 ^^^ a ^^^ b)) = ((cutL 3 N [0, 0, 0, 0]).map uv).toArray := hset
        obtain ⟨p, hp⟩ : ∃ p, mul8 c 2 = p := ⟨_, rfl⟩
        obtain ⟨q, hq⟩ : ∃ q, mul8 d 3 = q := ⟨_, rfl⟩
        have HM2 := Lib.hid (fun W => mul2_any c W)
        have HM3 := Lib.hid (fun W => mul3_any d W)
        rw [hp] at hset' HM2
        rw [hq] at hset' HM3
        have x1 := xor_byte p q
        have x2 := xor_byte (p ^^^ q) a
        have x3 := xor_byte (p ^^^ q ^^^ a) b
        generalize p ^^^ q = y at x1 x2 x3 hset'
        generalize y ^^^ a = z at x2 x3 hset'
        generalize z ^^^ b = t at x3 hset'
        have HS := Lib.hid hset'
        have HX1 := Lib.hid x1
        have HX2 := Lib.hid x2
        have HX3 := Lib.hid x3
        clear hset hset' hp hq x1 x2 x3 hlt hk
        go_wp2_with fail
        go_quiet (fail)
        clear c0 c1 c2 c3
        obtain ⟨w3, hw3⟩ := drewN_name wr nq
        rw [hw3]
        have A3 : Hid (Blk w3 w.heap.size 89 #[uv a, uv b, uv c, uv d]) := Lib.hid (by rw [← hw3]; exact A.out.drewN _)
        have Z3 : Hid (Blk w3 (w.heap.size + 1) 89 #[uv 0, uv 0, uv 0, uv 0]) := Lib.hid (by rw [← hw3]; exact Z.out.drewN _)
        have P3 : Hid (Blk w3 (w.heap.size + 2) 89 ((cutL 2 N [0, 0, 0, 0]).map uv).toArray) := Lib.hid (by rw [← hw3]; exact P.out.drewN _)
        have hb3 : Below w.heap.size w w3 := by rw [← hw3]; exact bdn' hb _
        have hc3 : w3.cell? ⟨w.heap.size + 2, 2, none⟩ = some (uv old) := by rw [← hw3]; exact hc
        have hf3 := P3.out.frozen 2
        clear hw3 A Z P hb hc hf
        have x1 := HX1.out
        have x2 := HX2.out
        have x3 := HX3.out
        go_wp2_with fail
        refine (HM2.out _).mono ?_
        rintro e w4 ⟨rfl, rfl⟩
        go_wp2_with fail
        refine (HM3.out _).mono ?_
        rintro e w4 ⟨rfl, rfl⟩
        go_wp2
        exact ⟨⟨3, by omega, by go_num, Lib.hid (A3.out.far (by simp; omega) _), Lib.hid (Z3.out.far (by simp) _), Lib.hid (by have := P3.out.set_ 2 (uv t); rw [HS.out] at this; exact this), bs hb3 (by omega) _⟩, by simp [intOf]⟩
      · have hset' : (((cutL 3 N [0, 0, 0, 0]).map uv).toArray).setIfInBounds 3 (uv (mul8 d 2 ^^^ mul8 a 3 ^^^ b ^^^ c)) = ((cutL 4 N [0, 0, 0, 0]).map uv).toArray := hset
        obtain ⟨p, hp⟩ : ∃ p, mul8 d 2 = p := ⟨_, rfl⟩
        obtain ⟨q, hq⟩ : ∃ q, mul8 a 3 = q := ⟨_, rfl⟩
        have HM2 := Lib.hid (fun W => mul2_any d W)
        have HM3 := Lib.hid (fun W => mul3_any a W)
        rw [hp] at hset' HM2
        rw [hq] at hset' HM3
        have x1 := xor_byte p q
        have x2 := xor_byte (p ^^^ q) b
        have x3 := xor_byte (p ^^^ q ^^^ b) c
        generalize p ^^^ q = y at x1 x2 x3 hset'
        generalize y ^^^ b = z at x2 x3 hset'
        generalize z ^^^ c = t at x3 hset'
        have HS := Lib.hid hset'
        have HX1 := Lib.hid x1
        have HX2 := Lib.hid x2
        have HX3 := Lib.hid x3
        clear hset hset' hp hq x1 x2 x3 hlt hk
        go_wp2_with fail
        go_quiet (fail)
        clear c0 c1 c2 c3
        obtain ⟨w3, hw3⟩ := drewN_name wr nq
        rw [hw3]
        have A3 : Hid (Blk w3 w.heap.size 89 #[uv a, uv b, uv c, uv d]) := Lib.hid (by rw [← hw3]; exact A.out.drewN _)
        have Z3 : Hid (Blk w3 (w.heap.size + 1) 89 #[uv 0, uv 0, uv 0, uv 0]) := Lib.hid (by rw [← hw3]; exact Z.out.drewN _)
        have P3 : Hid (Blk w3 (w.heap.size + 2) 89 ((cutL 3 N [0, 0, 0, 0]).map uv).toArray) := Lib.hid (by rw [← hw3]; exact P.out.drewN _)
        have hb3 : Below w.heap.size w w3 := by rw [← hw3]; exact bdn' hb _
        have hc3 : w3.cell? ⟨w.heap.size + 2, 3, none⟩ = some (uv old) := by rw [← hw3]; exact hc
        have hf3 := P3.out.frozen 3
        clear hw3 A Z P hb hc hf
        have x1 := HX1.out
        have x2 := HX2.out
        have x3 := HX3.out
        go_wp2_with fail
        refine (HM2.out _).mono ?_
        rintro e w4 ⟨rfl, rfl⟩
        go_wp2_with fail
        refine (HM3.out _).mono ?_
        rintro e w4 ⟨rfl, rfl⟩
        go_wp2
        exact ⟨⟨4, by omega, by go_num, Lib.hid (A3.out.far (by simp; omega) _), Lib.hid (Z3.out.far (by simp) _), Lib.hid (by have := P3.out.set_ 3 (uv t); rw [HS.out] at this; exact this), bs hb3 (by omega) _⟩, by simp [intOf]⟩
    · obtain rfl : k = 4 := by omega
      have hP := P.out
      rw [cutL_all HN.out HZ.out] at hP
      have HONE := Lib.hid (uvs_one N)
      go_wp2_with (first | (refine wpList_load_row rfl _ _ rfl _ rfl _ _ _ _ hP Tryz.underlying89 rfl (wlen HN.out) ?_) | (refine wpList_store_mid rfl _ _ _ rfl _ _ (N.map uv).toArray rfl rfl (Z.out.there (by rw [List.size_toArray, List.length_map, HN.out]; exact Nat.le_refl 4)) (wlen HN.out) (all_oneCell_toArray HONE.out) ?_))
      have hW := Z.out.whole (N.map uv) (by rw [List.length_map, HN.out]; rfl)
      refine bodyPost_ret (v := .agg (N.map uv).toArray) (results_cell_row rfl _ _ _ _ _ _ _ rfl hW Tryz.underlying89 rfl (wlen HN.out)) rfl ?_
      exact ⟨rfl, bw hb (by omega) _ _⟩
end Go.Proofs.YtcecjoodlmpgnaaGreat
