/- Texts of this seat, one behind the other: FTab2, FBoxes, AMem, AMath, ACopy, AKeyM, AWord, AWordB. -/
import Derived.Laws.MakeOwn
import Derived.Lib.BufferWrite
import Derived.Laws.CopyRow
import Derived.Deep.RegionLaw
import Derived.Test.YtcecjoodlmpgnaaQ02
import Derived.Test.YtcecjoodlmpgnaaQ09
/- The powers of 3, and of its inverse: the tables; the boxes, so many of them set. -/
namespace Go.Proofs.Ytcecjoodlmpgnaa
def powT : List Nat := [1, 3, 5, 15, 17, 51, 85, 255, 26, 46, 114, 150, 161, 248, 19, 53, 95, 225, 56, 72, 216, 115, 149, 164, 247, 2, 6, 10, 30, 34, 102, 170, 229, 52, 92, 228, 55, 89, 235, 38, 106, 190, 217, 112, 144, 171, 230, 49, 83, 245, 4, 12, 20, 60, 68, 204, 79, 209, 104, 184, 211, 110, 178, 205, 76, 212, 103, 169, 224, 59, 77, 215, 98, 166, 241, 8, 24, 40, 120, 136, 131, 158, 185, 208, 107, 189, 220, 127, 129, 152, 179, 206, 73, 219, 118, 154, 181, 196, 87, 249, 16, 48, 80, 240, 11, 29, 39, 105, 187, 214, 97, 163, 254, 25, 43, 125, 135, 146, 173, 236, 47, 113, 147, 174, 233, 32, 96, 160, 251, 22, 58, 78, 210, 109, 183, 194, 93, 231, 50, 86, 250, 21, 63, 65, 195, 94, 226, 61, 71, 201, 64, 192, 91, 237, 44, 116, 156, 191, 218, 117, 159, 186, 213, 100, 172, 239, 42, 126, 130, 157, 188, 223, 122, 142, 137, 128, 155, 182, 193, 88, 232, 35, 101, 175, 234, 37, 111, 177, 200, 67, 197, 84, 252, 31, 33, 99, 165, 244, 7, 9, 27, 45, 119, 153, 176, 203, 70, 202, 69, 207, 74, 222, 121, 139, 134, 145, 168, 227, 62, 66, 198, 81, 243, 14, 18, 54, 90, 238, 41, 123, 141, 140, 143, 138, 133, 148, 167, 242, 13, 23, 57, 75, 221, 124, 132, 151, 162, 253, 28, 36, 108, 180, 199, 82, 246, 1]
def ipowT : List Nat := [1, 246, 82, 199, 180, 108, 36, 28, 253, 162, 151, 132, 124, 221, 75, 57, 23, 13, 242, 167, 148, 133, 138, 143, 140, 141, 123, 41, 238, 90, 54, 18, 14, 243, 81, 198, 66, 62, 227, 168, 145, 134, 139, 121, 222, 74, 207, 69, 202, 70, 203, 176, 153, 119, 45, 27, 9, 7, 244, 165, 99, 33, 31, 252, 84, 197, 67, 200, 177, 111, 37, 234, 175, 101, 35, 232, 88, 193, 182, 155, 128, 137, 142, 122, 223, 188, 157, 130, 126, 42, 239, 172, 100, 213, 186, 159, 117, 218, 191, 156, 116, 44, 237, 91, 192, 64, 201, 71, 61, 226, 94, 195, 65, 63, 21, 250, 86, 50, 231, 93, 194, 183, 109, 210, 78, 58, 22, 251, 160, 96, 32, 233, 174, 147, 113, 47, 236, 173, 146, 135, 125, 43, 25, 254, 163, 97, 214, 187, 105, 39, 29, 11, 240, 80, 48, 16, 249, 87, 196, 181, 154, 118, 219, 73, 206, 179, 152, 129, 127, 220, 189, 107, 208, 185, 158, 131, 136, 120, 40, 24, 8, 241, 166, 98, 215, 77, 59, 224, 169, 103, 212, 76, 205, 178, 110, 211, 184, 104, 209, 79, 204, 68, 60, 20, 12, 4, 245, 83, 49, 230, 171, 144, 112, 217, 190, 106, 38, 235, 89, 55, 228, 92, 52, 229, 170, 102, 34, 30, 10, 6, 2, 247, 164, 149, 115, 216, 72, 56, 225, 95, 53, 19, 248, 161, 150, 114, 46, 26, 255, 85, 51, 17, 15, 5, 3, 1]
def P3 (k : Nat) : Nat := powT.getD k 0
def I3 (k : Nat) : Nat := ipowT.getD k 0
theorem pow_all : ∀ k, k < 255 → cm (P3 k) 3 = P3 (k + 1) ∧ cm (I3 k) 246 = I3 (k + 1) ∧ boxI (I3 k) = box (P3 k) ∧ P3 k < 256 ∧ I3 k < 256 ∧ P3 k ≠ 0 ∧ powT.idxOf (P3 k) = k := by decide +kernel
theorem pow_lt (k : Nat) (h : k < 256) : P3 k < 256 ∧ I3 k < 256 := by
  have key : ∀ k, k < 256 → P3 k < 256 ∧ I3 k < 256 := by decide +kernel
  exact key k h
theorem idx_all : ∀ x, x < 256 → x = 0 ∨ (powT.idxOf x < 255 ∧ P3 (powT.idxOf x) = x) := by decide +kernel
theorem inv3 : inv 3 = 246 := by decide +kernel

/-- A byte's cell. -/
def bv (x : Nat) : Value := .int .u8 (x : Int)
/-- The box at a place, if it is set. -/
def boxAt (k x : Nat) : Nat := if x = 0 ∨ powT.idxOf x < k then box x else 0
def boxRow (k : Nat) : Array Value := ((List.range 256).map fun x => bv (boxAt k x)).toArray
theorem boxRow_size (k : Nat) : (boxRow k).size = 256 := by simp [boxRow]
theorem boxRow_at (k x : Nat) (h : x < 256) : (boxRow k)[x]? = some (bv (boxAt k x)) := by simp [boxRow, h]
theorem boxRow_set (k : Nat) (h : k < 255) : (boxRow k).setIfInBounds (P3 k) (bv (box (P3 k))) = boxRow (k + 1) := by
  obtain ⟨-, -, -, hlt, -, h0, hix⟩ := pow_all k h
  apply Array.ext
  · rw [Array.size_setIfInBounds, boxRow_size, boxRow_size]
  · intro x h1 h2
    have hx : x < 256 := by rw [boxRow_size] at h2; exact h2
    rw [Array.getElem_setIfInBounds (by rw [boxRow_size]; exact hx)]
    have e1 : (boxRow (k + 1))[x]'h2 = bv (boxAt (k + 1) x) := by have := boxRow_at (k + 1) x hx; rw [Array.getElem?_eq_getElem h2] at this; exact Option.some.inj this
    have h1' : x < (boxRow k).size := by rw [boxRow_size]; exact hx
    have e0 : (boxRow k)[x]'h1' = bv (boxAt k x) := by have := boxRow_at k x hx; rw [Array.getElem?_eq_getElem h1'] at this; exact Option.some.inj this
    rw [e1, e0]
    by_cases e : P3 k = x
    · rw [if_pos e, ← e, boxAt, if_pos (Or.inr (by omega))]
    · rw [if_neg e]
      have : boxAt k x = boxAt (k + 1) x := by
        unfold boxAt
        by_cases hz : x = 0
        · rw [if_pos (Or.inl hz), if_pos (Or.inl hz)]
        · have hne : powT.idxOf x ≠ k := by
            intro hk
            rcases idx_all x hx with h' | h'
            · exact hz h'
            · rw [hk] at h'; exact e h'.2
          by_cases hl : powT.idxOf x < k
          · rw [if_pos (Or.inr hl), if_pos (Or.inr (by omega))]
          · rw [if_neg (by omega), if_neg (by omega)]
      rw [this]
theorem boxRow_all : boxRow 255 = (boxT.map bv).toArray := by
  have h : ∀ x, x < 256 → boxAt 255 x = box x := fun x hx => by
    unfold boxAt
    rcases idx_all x hx with h' | h'
    · rw [if_pos (Or.inl h')]
    · rw [if_pos (Or.inr h'.1)]
  have e : (List.range 256).map (fun x => bv (boxAt 255 x)) = (List.range 256).map (fun x => bv (box x)) := List.map_congr_left fun x hx => by rw [h x (List.mem_range.1 hx)]
  have e2 : (List.range 256).map box = boxT := by decide +kernel
  unfold boxRow
  rw [e, ← e2, List.map_map]
  rfl
theorem boxRow_zero : boxRow 0 = ((List.replicate 256 0).map bv).toArray.setIfInBounds 0 (bv 99) := by
  have e : (List.range 256).map (boxAt 0) = (List.replicate 256 0).set 0 99 := by decide +kernel
  unfold boxRow
  rw [show (List.range 256).map (fun x => bv (boxAt 0 x)) = ((List.range 256).map (boxAt 0)).map bv by rw [List.map_map]; rfl, e]
  rw [List.setIfInBounds_toArray, List.map_set]
end Go.Proofs.Ytcecjoodlmpgnaa
/- The contract of Boxes. -/
namespace Go.Proofs.Ytcecjoodlmpgnaa
open Go.RowKit

theorem info5 : (Try.prog.info? 5).map (fun i => (i.zero, i.size, i.bytes)) = some (some (.int .u8 0), 1, 1) := by kernel_rfl
def zeroRow : Array Value := ((List.replicate 256 0).map bv).toArray
theorem zeroRow_size : zeroRow.size = 256 := by simp [zeroRow, -List.reduceReplicate]
theorem zeroRow_at : zeroRow[0]? = some (bv 0) := by kernel_rfl
theorem made_zero : madeCells (Value.int .u8 0).cells (256 * 1) = zeroRow := by
  apply Array.ext
  · rw [size_madeCells, zeroRow_size]
  · intro i h1 h2
    simp [madeCells, zeroRow, Value.cells, bv, Nat.mod_one, -List.reduceReplicate]
theorem make256 (W : World) : (Instr.makeSlice 59 (.int .i64 256) (.int .i64 256)).run Try.prog W = .ok (.slice (some ⟨W.heap.size, 0, none⟩) 256 256) (W.alloc (.cells zeroRow 5)) := by
  obtain ⟨i0, hi, hz0, hz1, hz2⟩ := info_parts info5
  have h := run_makeSlice (P := Try.prog) W 59 5 i0 (.int .u8 0) Try.underlying59 hi hz0 .i64 .i64 256 256 (by omega) (by omega) (by rw [hz1]; decide) (by rw [hz2]; decide) (by omega)
  rw [hz1] at h
  have e2 : ((256 : Int).toNat * 1) = 256 * 1 := rfl
  rw [e2, made_zero] at h
  exact h

set_option maxRecDepth 100000 in
set_option maxHeartbeats 4000000 in
theorem boxes_any (w : World) :
    Calls Try.prog 39 #[] w fun e w' => ∃ g, e = .returned (.slice (some ⟨g, 0, none⟩) 256 256) ∧ w.heap.size ≤ g ∧ Blk w' g 5 (boxT.map bv).toArray ∧ Below w.heap.size w w' := by
  have hmk := make256 w
  have HZ := Lib.hid zeroRow_at
  have HS : Hid (zeroRow.setIfInBounds 0 (bv 99) = boxRow 0) := Lib.hid boxRow_zero.symm
  have HA := Lib.hid boxRow_all
  have B0 : Hid (boxI 0 = 99) := Lib.hid (by decide +kernel)
  obtain ⟨Z, hZ⟩ : ∃ Z, zeroRow = Z := ⟨_, rfl⟩
  rw [hZ] at hmk HZ HS
  clear hZ
  go_enter Try.func39, Try.ntmps39
  go_wp2_with fail
  refine (boxOf_any 0 _ (by omega)).mono ?_
  rw [B0.out]
  rintro e w1 ⟨rfl, rfl⟩
  have hB := Blk.new w 5 Z
  have hb : Below w.heap.size w (w.alloc (.cells Z 5)) := ba (Below.refl _ _) _
  generalize w.alloc (.cells Z 5) = w1 at hB hb
  have hc := (hB.cell 0).trans HZ.out
  have hf := hB.frozen 0
  have HB := Lib.hid hB
  clear hB
  go_wp2_with fail
  have HB2 := Lib.hid (HB.out.set_ 0 (bv 99))
  have hb2 := bs hb (Nat.le_refl _) (bv 99) (o := 0)
  rw [HS.out] at HB2
  clear hc hf HB hb hmk
  have e1 : w1.setCell ⟨w.heap.size, 0, none⟩ (.int .u8 99) = w1.setCell ⟨w.heap.size, 0, none⟩ (bv 99) := rfl
  rw [e1]
  generalize w1.setCell ⟨w.heap.size, 0, none⟩ (bv 99) = w2 at HB2 hb2
  clear e1 w1
  have HI : Hid (inv 3 = 246) := Lib.hid inv3
  refine (inv_any 3 _ (by omega)).mono ?_
  rw [HI.out]
  rintro e w3 ⟨rfl, rfl⟩
  go_wp2_with fail
  go_loopw [2, 3, 10] (fun pv iv kv wr => ∃ k p i : Nat, k ≤ 255 ∧ pv = .int .u8 (p : Int) ∧ iv = .int .u8 (i : Int) ∧ kv = .int .i64 (k : Int) ∧ Hid (P3 k = p) ∧ Hid (I3 k = i) ∧ Blk wr w.heap.size 5 (boxRow k) ∧ Below w.heap.size w wr) (fun _ _ kv _ => 255 - (intOf kv).toNat)
  case atStart => exact ⟨0, 1, 1, by omega, rfl, rfl, rfl, Lib.hid rfl, Lib.hid rfl, HB2.out, hb2⟩
  case round =>
    clear HB2 hb2
    obtain ⟨k, p, i, hk, rfl, rfl, rfl, HP, HI, hB, hb⟩ := hrel
    by_cases hlt : k < 255
    · obtain ⟨a1, a2, a3, a4, a5, -, -⟩ := pow_all k hlt
      have hset := boxRow_set k hlt
      have hold := boxRow_at k (P3 k) a4
      rw [HP.out] at a1 a3 a4 hset hold
      rw [HI.out] at a2 a3 a5
      have hc := (hB.cell p).trans hold
      have hf := hB.frozen p
      have HO := Lib.hid (boxOf_any i wr (by omega))
      rw [a3] at HO
      have HB := Lib.hid hB
      have HS2 := Lib.hid hset
      have H1 := Lib.hid a1.symm
      have H2 := Lib.hid a2.symm
      clear hB hold hset a1 a2 a3
      obtain ⟨x, hx⟩ : ∃ x, box p = x := ⟨_, rfl⟩
      rw [hx] at HO HS2
      clear hx
      go_wp2_with fail
      refine HO.out.mono ?_
      rintro e w1 ⟨rfl, rfl⟩
      go_wp2_with fail
      have HB2 := Lib.hid (HB.out.set_ p (bv x))
      have hb2 := bs hb (Nat.le_refl _) (bv x) (o := p)
      rw [HS2.out] at HB2
      clear hc hf HB hb
      have e1 : wr.setCell ⟨w.heap.size, p, none⟩ (.int .u8 (x : Int)) = wr.setCell ⟨w.heap.size, p, none⟩ (bv x) := rfl
      rw [e1]
      generalize wr.setCell ⟨w.heap.size, p, none⟩ (bv x) = w2 at HB2 hb2
      clear e1 HO HS2
      have HM1 := Lib.hid (mul_any p 3 w2 (by omega) (by omega))
      have HM2 := Lib.hid (mul_any i 246 w2 (by omega) (by omega))
      rw [← H1.out] at HM1
      rw [← H2.out] at HM2
      obtain ⟨p2, hp2⟩ : ∃ p2, P3 (k + 1) = p2 := ⟨_, rfl⟩
      obtain ⟨i2, hi2⟩ : ∃ i2, I3 (k + 1) = i2 := ⟨_, rfl⟩
      rw [hp2] at HM1
      rw [hi2] at HM2
      have HP2 := Lib.hid hp2
      have HI2 := Lib.hid hi2
      clear hp2 hi2 H1 H2
      refine HM1.out.mono ?_
      rintro e w3 ⟨rfl, rfl⟩
      go_wp2_with fail
      refine HM2.out.mono ?_
      rintro e w3 ⟨rfl, rfl⟩
      go_wp2_with fail
      go_roundw
      case rel => exact ⟨k + 1, p2, i2, by omega, rfl, rfl, by go_num, HP2, HI2, HB2.out, hb2⟩
      case measure => simp [intOf]; omega
    · obtain rfl : k = 255 := by omega
      rw [HA.out] at hB
      have HB := Lib.hid hB
      clear hB
      go_wp2_with fail
      go_ret
      exact ⟨_, rfl, Nat.le_refl _, HB.out, hb⟩
end Go.Proofs.Ytcecjoodlmpgnaa
/- Words for what stage 6's functions do: XAMem0, and the boxes' texts. -/

/- The boxes' table, by its places. -/
namespace Go.Proofs.Ytcecjoodlmpgnaa

theorem boxT_at (b : UInt8) : ((boxT.map bv).toArray)[b.toNat]? = some (uv (box8 b)) := by
  have hl : boxT.length = 256 := by decide +kernel
  have hb := b.toNat_lt
  have h1 : (box8 b).toNat = boxT.getD b.toNat 0 := box8_nat b
  generalize boxT = T at hl h1
  have this : T[b.toNat]'(by omega) = (box8 b).toNat := by rw [h1]; simp [List.getD, hl, hb]
  simp [hl, hb, this, bv]
end Go.Proofs.Ytcecjoodlmpgnaa
/- What copy does: a text's first bytes into a word; words into a grid. Nothing of any function. -/
namespace Go.Proofs.Ytcecjoodlmpgnaa
open Go.RowKit

theorem info8 : (Try.prog.info? 5).map (·.size) = some 1 := by kernel_rfl
theorem info8s : (Try.prog.info? 76).map (·.size) = some 4 := by kernel_rfl
theorem Blk.setRow {w : World} {g : Nat} {t : TypeId} {cs : Array Value} (h : Blk w g t cs) (cs' : Array Value) : Blk (w.setRow g cs') g t cs' := setRow_heap w g cs cs' t _ h
theorem Blk.setRow_far {w : World} {g k : Nat} {t : TypeId} {cs : Array Value} (h : Blk w k t cs) (hk : k ≠ g) (cs' : Array Value) : Blk (w.setRow g cs') k t cs := (setRow_other _ _ _ _ hk).trans h
theorem below_setRow {B g : Nat} {w w1 : World} (h : Below B w w1) (hg : B ≤ g) (cs : Array Value) : Below B w (w1.setRow g cs) :=
  h.trans ⟨rfl, rfl, rfl, by simp [World.setRow], fun k hk => setRow_other _ _ _ _ (by omega)⟩

/-- A text that is longer than the row: so many of its bytes. -/
theorem copy_text (w : World) (g n : Nat) (l : List UInt8) (cur : Array Value) (t : TypeId) (hg : Blk w g t cur) (hn : n ≤ l.length) (hc : cur.size = n) :
    (Builtin.copy_ #[59, 9] 3 #[.slice (some ⟨g, 0, none⟩) n n, .string ⟨l.toArray⟩]).run Try.prog w = .ok (goInt n) (w.setRow g ((l.take n).map uv).toArray) := by
  have hlen : ((l.take n).map uv).length = n := by rw [List.length_map, List.length_take]; omega
  have hst := run_storeCells_at Try.prog g 0 t ((l.take n).map uv) 0 cur w hg (by rw [hlen]; omega) (uvs_one _)
  have hmin : Nat.min (⟨l.toArray⟩ : ByteArray).size n = n := by rw [size_of]; exact Nat.min_eq_right hn
  have htk : List.take n (List.map (fun b : UInt8 => Value.int IntKind.u8 (b.toNat : Int)) l) = (l.take n).map uv := by rw [List.map_take]
  have hdr : cur.toList.drop n = [] := List.drop_of_length_le (by simp [hc])
  rw [hlen] at hst
  simp only [Nat.add_zero, Nat.zero_add, List.take_zero, List.nil_append, hdr, List.append_nil] at hst
  cases hq : Try.prog.info? 5 with
  | none => have := info8; simp [hq] at this
  | some i =>
    simp [Builtin.copy_, run_underlying Try.underlying59, Builtin.lenOf, Builtin.firstCells, sizeOf, typeInfo, hq, hmin]
    rw [← List.map_take]
    rw [hst]
    simp [Result.andThen]

/-- Four words out of a row of them into a grid of a row of grids. -/
theorem copy_words (w : World) (g o q s n m : Nat) (L : List UInt8) (cur : Array Value) (t t' : TypeId) (hg : Blk w g t cur) (hq : Blk w q t' (L.map uv).toArray) (hn : 4 ≤ n) (hs : s + 16 ≤ L.length) (hfit : o + 16 ≤ cur.size) :
    (Builtin.copy_ #[113, 113] 3 #[.slice (some ⟨g, o, none⟩) 4 4, .slice (some ⟨q, s, none⟩) n m]).run Try.prog w =
      .ok (goInt 4) (w.setRow g (cur.toList.take o ++ (((L.drop s).take 16).map uv) ++ cur.toList.drop (o + 16)).toArray) := by
  have hlen : (((L.drop s).take 16).map uv).length = 16 := by rw [List.length_map, List.length_take, List.length_drop]; omega
  have hl := run_loadCells_list (P := Try.prog) w ⟨q, s, none⟩ (((L.drop s).take 16).map uv) (fun j v hv => by
    have hj : j < 16 := by have := (List.getElem?_eq_some_iff.1 hv).1; omega
    rw [Addr.add_mid, hq.cell]
    rw [← hv]
    simp [hj])
  have hst := run_storeCells_at Try.prog g o t (((L.drop s).take 16).map uv) 0 cur w hg (by rw [hlen]; omega) (uvs_one _)
  rw [hlen] at hl hst
  simp only [Nat.add_zero] at hst
  have hmin : Nat.min n 4 = 4 := Nat.min_eq_right hn
  cases hq : Try.prog.info? 76 with
  | none => have := info8s; simp [hq] at this
  | some i =>
    have hi : i.size = 4 := by have := info8s; simpa [hq] using this
    simp [Builtin.copy_, run_underlying Try.underlying113, Builtin.lenOf, Builtin.firstCells, sizeOf, typeInfo, hq, hi, hmin]
    rw [← List.map_drop, ← List.map_take, hl]
    simp only [Result.andThen_ok]
    rw [hst]
    simp [Result.andThen]
end Go.Proofs.Ytcecjoodlmpgnaa
/- A key's words in plain lists; rows of words in memory, made and filled. Nothing of any function. -/
namespace Go.Proofs.Ytcecjoodlmpgnaa
open Go.RowKit

theorem ub_append_left {A B : List UInt8} {p : Nat} (h : p < A.length) : ub (A ++ B) p = ub A p := by simp [ub, List.getD, List.getElem?_append_left h]
theorem ub_append_right {A B : List UInt8} {p : Nat} (h : A.length ≤ p) : ub (A ++ B) p = ub B (p - A.length) := by simp [ub, List.getD, List.getElem?_append_right h]
theorem ub_drop (L : List UInt8) (m p : Nat) : ub (L.drop m) p = ub L (m + p) := by simp [ub, List.getD]
theorem ub_take {L : List UInt8} {m p : Nat} (h : p < m) : ub (L.take m) p = ub L p := by simp [ub, List.getD, h]
/-- What has been made of a key stays. -/
theorem kwN_stays (key : List UInt8) (own : Nat) (h : key.length = 4 * own) (j m p : Nat) (hj : j ≤ m) (hp : p < 4 * (own + j)) : ub (kwN key own m) p = ub (kwN key own j) p := by
  induction m with
  | zero => obtain rfl : j = 0 := by omega
            rfl
  | succ m ih =>
    by_cases he : j = m + 1
    · subst he; rfl
    · rw [← ih (by omega), kwN, ub_append_left]
      rw [kwN_len key own h]; omega
theorem colG_eq {A B : List UInt8} {c : Nat} (h : ∀ r, r < 4 → ub A (4 * c + r) = ub B (4 * c + r)) : colG A c = colG B c := tab_ext h
theorem keysF_key (key : List UInt8) (h : key.length = 16 ∨ key.length = 32) (p : Nat) (hp : p < key.length) : ub (keysF key) p = ub key p :=
  kwN_stays key _ (by omega) 0 _ p (by omega) (by omega)
theorem ub_colG (G : List UInt8) (c : Nat) {r : Nat} (h : r < 4) : ub (colG G c) r = ub G (4 * c + r) := ub_tab _ h
/-- Each word behind the key's own is made as the document says. -/
theorem keysF_word (key : List UInt8) (h : key.length = 16 ∨ key.length = 32) (i : Nat) (h1 : key.length / 4 ≤ i) (h2 : i < 4 * (key.length / 4 + 7)) :
    colG (keysF key) i = nextW (keysF key) i (key.length / 4) := by
  obtain ⟨own, ho⟩ : ∃ own, key.length / 4 = own := ⟨_, rfl⟩
  have hl : key.length = 4 * own := by omega
  unfold keysF
  rw [ho] at h1 h2 ⊢
  obtain ⟨j, rfl⟩ : ∃ j, i = own + j := ⟨i - own, by omega⟩
  have hS := fun p hp => kwN_stays key own hl j (3 * own + 28) p (by omega) hp
  have hS1 := fun p hp => kwN_stays key own hl (j + 1) (3 * own + 28) p (by omega) hp
  have hL := kwN_len key own hl j
  have e1 : colG (kwN key own (3 * own + 28)) (own + j - own) = colG (kwN key own j) (own + j - own) := colG_eq fun r hr => hS _ (by omega)
  have e2 : colG (kwN key own (3 * own + 28)) (own + j - 1) = colG (kwN key own j) (own + j - 1) := colG_eq fun r hr => hS _ (by omega)
  have e3 : nextW (kwN key own (3 * own + 28)) (own + j) own = nextW (kwN key own j) (own + j) own := by unfold nextW; rw [e1, e2]
  rw [e3]
  apply list_ext (n := 4) (tab_len _ _) (nextW_len _ _ _)
  intro r hr
  refine (ub_colG _ _ hr).trans ?_
  rw [hS1 _ (by omega), kwN, ub_append_right (by omega), hL]
  congr 1
  omega
/-- A word's four bytes. -/
theorem colG_four (F : List UInt8) (c : Nat) : colG F c = [ub F (4 * c), ub F (4 * c + 1), ub F (4 * c + 2), ub F (4 * c + 3)] := rfl

/-- A row of zeros. -/
def zerosL (n : Nat) : List UInt8 := List.replicate n 0
theorem zerosL_len (n : Nat) : (zerosL n).length = n := by simp [zerosL]
theorem put4 {w : World} {g : Nat} {t : TypeId} {N M : List UInt8} {n k : Nat} (h : Blk w g t ((cutL k N M).map uv).toArray) (hn : N.length = n) (hm : M.length = n) (hk : k + 4 ≤ n) :
    Blk (w.setCells g k [uv (ub N k), uv (ub N (k + 1)), uv (ub N (k + 2)), uv (ub N (k + 3))]) g t ((cutL (k + 4) N M).map uv).toArray := by
  have := (((h.set_ k (uv (ub N k))).set_ (k + 1) (uv (ub N (k + 1)))).set_ (k + 2) (uv (ub N (k + 2)))).set_ (k + 3) (uv (ub N (k + 3)))
  rw [cutL_set4 hn hm hk] at this
  exact this
theorem infoW : (Try.prog.info? 76).map (fun i => (i.zero, i.size, i.bytes)) = some (some (.agg #[.int .u8 0, .int .u8 0, .int .u8 0, .int .u8 0]), 4, 4) := by kernel_rfl
theorem infoG : (Try.prog.info? 78).map (fun i => (i.zero, i.size, i.bytes)) = some (some (.agg #[.int .u8 0, .int .u8 0, .int .u8 0, .int .u8 0, .int .u8 0, .int .u8 0, .int .u8 0, .int .u8 0, .int .u8 0, .int .u8 0, .int .u8 0, .int .u8 0, .int .u8 0, .int .u8 0, .int .u8 0, .int .u8 0]), 16, 16) := by kernel_rfl
theorem made_zeros (z : Array Value) (s n : Nat) (hs : z.size = s) (h0 : 0 < s) (hz : ∀ i, i < s → z[i]? = some (uv 0)) : madeCells z (n * s) = ((zerosL (n * s)).map uv).toArray := by
  apply Array.ext
  · simp [size_madeCells, zerosL]
  · intro i h1 h2
    have hi : i % s < z.size := by rw [hs]; exact Nat.mod_lt _ h0
    have := hz (i % s) (Nat.mod_lt _ h0)
    rw [Array.getElem?_eq_getElem hi] at this
    have e := Option.some.inj this
    rw [← getElem!_pos z (i % s) hi] at e
    simp [madeCells, zerosL, hs, e]
theorem make_words (n : Nat) (hn : n ≤ 65536) (W : World) : (Instr.makeSlice 113 (.int .i64 0) (.int .i64 (n : Int))).run Try.prog W = .ok (.slice (some ⟨W.heap.size, 0, none⟩) 0 n) (W.alloc (.cells ((zerosL (n * 4)).map uv).toArray 76)) := by
  obtain ⟨i0, hi, hz0, hz1, hz2⟩ := info_parts infoW
  have h := run_makeSlice (P := Try.prog) W 113 76 i0 _ Try.underlying113 hi hz0 .i64 .i64 0 n (by omega) (by omega) (by rw [hz1]; omega) (by rw [hz2]; omega) (by omega)
  rw [hz1, made_zeros _ 4 _ rfl (by omega) (fun i hi => by
    obtain rfl | rfl | rfl | rfl : i = 0 ∨ i = 1 ∨ i = 2 ∨ i = 3 := by omega
    all_goals rfl)] at h
  exact h
theorem make_grids (n : Nat) (hn : n ≤ 65536) (W : World) : (Instr.makeSlice 81 (.int .i64 (n : Int)) (.int .i64 (n : Int))).run Try.prog W = .ok (.slice (some ⟨W.heap.size, 0, none⟩) n n) (W.alloc (.cells ((zerosL (n * 16)).map uv).toArray 78)) := by
  obtain ⟨i0, hi, hz0, hz1, hz2⟩ := info_parts infoG
  have h := run_makeSlice (P := Try.prog) W 81 78 i0 _ Try.underlying81 hi hz0 .i64 .i64 n n (by omega) (by omega) (by rw [hz1]; omega) (by rw [hz2]; omega) (by omega)
  rw [hz1, made_zeros _ 16 _ rfl (by omega) (fun i hi => by
    obtain rfl | rfl | rfl | rfl | rfl | rfl | rfl | rfl | rfl | rfl | rfl | rfl | rfl | rfl | rfl | rfl : i = 0 ∨ i = 1 ∨ i = 2 ∨ i = 3 ∨ i = 4 ∨ i = 5 ∨ i = 6 ∨ i = 7 ∨ i = 8 ∨ i = 9 ∨ i = 10 ∨ i = 11 ∨ i = 12 ∨ i = 13 ∨ i = 14 ∨ i = 15 := by omega
    all_goals rfl)] at h
  exact h

/-- append where there is room, in a region that does not draw. -/
theorem wpList_append_room {P : Program} {ops : Array Oper} {rest : List Oper} {o : Oper} {a : Act} {w : World} {Q : Exit → Act → World → Prop} (hg : o.guard = none) (s x : Operand) (t : TypeId)
    (hop : o.op = Op.call { callee := Callee.builtin Builtin.append, args := #[s, x], argTypes := #[t, t] })
    (e : TypeId) (i : TypeInfo) (size : Nat) (h1 : P.underlying t = some (.slice e)) (h2 : P.info? e = some i) (h4 : i.size = size)
    (b off n cap : Nat) (hs : a.eval s = .slice (some ⟨b, off, none⟩) n cap)
    (ad : Addr) (m c : Nat) (news : List Value) (hx : a.eval x = .slice (some ad) m c) (hn : news.length = m * size) (hc : ∀ j u, news[j]? = some u → w.cell? (ad.add j) = some u) (h1c : ∀ u ∈ news, u.oneCell' = true)
    (hroom : n + m ≤ cap) (hspare : ∀ j, j < news.length → (w.cell? ⟨b, off + n * size + j, none⟩).isSome = true ∧ w.frozen? ⟨b, off + n * size + j, none⟩ = false)
    (h : wpList P ops Q rest (a.put o.dst (.slice (some ⟨b, off, none⟩) (n + m) cap)) (w.setCells b (off + n * size) news)) : wpList P ops Q (o :: rest) a w :=
  wpList_plain hg fun _ hK => by
    have := step_append_room (ops := ops) (E := True) (Q := Q) hg s x t hop e i size h1 h2 h4 b off n cap hs ad m c news hx hn hc h1c hroom hspare (hK _ _ h)
    rw [if_pos (by simp [Region.wanted, hg])] at this
    exact this
theorem extract_drop (l : List UInt8) (m n : Nat) (h : l.length = n) : (⟨l.toArray⟩ : ByteArray).extract m n = ⟨(l.drop m).toArray⟩ := by
  apply ByteArray.ext
  apply Array.toList_inj.1
  rw [Lib.extract_data]
  subst h
  simp
  exact List.take_of_length_le (by simp)
theorem Blk.spare {w : World} {g : Nat} {t : TypeId} {cs : Array Value} (h : Blk w g t cs) {o n : Nat} (hn : o + n ≤ cs.size) : ∀ j, j < n → (w.cell? ⟨g, o + j, none⟩).isSome = true ∧ w.frozen? ⟨g, o + j, none⟩ = false := fun j hj => by
  refine ⟨?_, h.frozen _⟩
  rw [h.cell]
  have : o + j < cs.size := by omega
  simp [this]
theorem uvs_size (L : List UInt8) : ((L.map uv).toArray).size = L.length := by simp
/-- So many bytes of a row are known. -/
def Kn (W : World) (g : Nat) (N : List UInt8) (m : Nat) : Prop := ∀ p, p < m → W.cell? ⟨g, p, none⟩ = some (uv (ub N p))
theorem Kn.later {W W' : World} {g m : Nat} {N : List UInt8} (h : Kn W g N m) (hb : Below W.heap.size W W') : Kn W' g N m := fun p hp => cell_later hb (h p hp)
theorem Kn.drew {W : World} {g m : Nat} {N : List UInt8} (h : Kn W g N m) : Kn W.drew g N m := h
theorem Kn.le {W : World} {g m n : Nat} {N : List UInt8} (h : Kn W g N m) (hn : n ≤ m) : Kn W g N n := fun p hp => h p (by omega)
theorem kn_of {W : World} {g : Nat} {t : TypeId} {N M : List UInt8} {n k : Nat} (h : Blk W g t ((cutL k N M).map uv).toArray) (hn : N.length = n) (hm : M.length = n) (hk : k ≤ n) : Kn W g N k := fun p hp => by
  rw [h.cell, row_at (by rw [cutL_len hn hm hk]; omega), ub_cutL hn hm hk (by omega), if_pos hp]
theorem scrW_len (a b c d : UInt8) (i own : Nat) : (scrW [a, b, c, d] i own).length = 4 := by
  unfold scrW
  split
  · rfl
  · split
    · exact tab_len _ _
    · rfl
theorem cut_copy {N M : List UInt8} {n o : Nat} (hn : N.length = n) (hm : M.length = n) (h : o + 16 ≤ n) :
    (((cutL o N M).map uv).toArray.toList.take o ++ (((N.drop o).take 16).map uv) ++ ((cutL o N M).map uv).toArray.toList.drop (o + 16)).toArray = ((cutL (o + 16) N M).map uv).toArray := by
  congr 1
  rw [List.toList_toArray, ← List.map_take, ← List.map_drop, ← List.map_append, ← List.map_append]
  congr 1
  have l1 : (N.take o).length = o := by rw [List.length_take]; omega
  have e1 : (cutL o N M).take o = N.take o := by
    unfold cutL
    rw [List.take_append_of_le_length (by omega), List.take_of_length_le (by omega)]
  have e2 : (cutL o N M).drop (o + 16) = M.drop (o + 16) := by
    unfold cutL
    rw [List.drop_append, List.drop_of_length_le (by omega), List.nil_append, l1, List.drop_drop]
    congr 1
    omega
  rw [e1, e2, cutL, List.take_add]
end Go.Proofs.Ytcecjoodlmpgnaa
/- The contracts of a word's turned, xor and boxed. -/
namespace Go.Proofs.Ytcecjoodlmpgnaa
open Go.RowKit

theorem agg4_at (a b c d : UInt8) (k : Nat) (hk : k < 4) (W : World) : (Instr.index 76 (.agg #[uv a, uv b, uv c, uv d]) (.int .i64 (k : Int))).run Try.prog W = .ok (uv (ub [a, b, c, d] k)) W := by
  obtain rfl | rfl | rfl | rfl : k = 0 ∨ k = 1 ∨ k = 2 ∨ k = 3 := by omega
  all_goals kernel_rfl
theorem wlen {L : List UInt8} (h : L.length = 4) : (Try.prog.info? 76).map (·.size) = some ((L.map uv).toArray).size := by
  rw [List.size_toArray, List.length_map, h]; kernel_rfl
theorem wlen' {L : List UInt8} (h : L.length = 4) : (Try.prog.info? 76).map (·.size) = some ((L.map uv)).length := by
  rw [List.length_map, h]; kernel_rfl

set_option maxRecDepth 100000 in
set_option maxHeartbeats 1000000 in
theorem turned_any (a b c d : UInt8) (w : World) :
    Calls Try.prog 95 #[.agg #[uv a, uv b, uv c, uv d]] w fun e w' => e = .returned (.agg #[uv b, uv c, uv d, uv a]) ∧ Below w.heap.size w w' := by
  go_enter Try.func95, Try.ntmps95
  go_wp2
  refine bodyPost_ret (v := .agg #[uv b, uv c, uv d, uv a]) (results_cell_row rfl _ _ _ _ _ _ _ rfl (Blk.newAt (by simp) _ _) Try.underlying76 rfl (by kernel_rfl)) rfl ?_
  exact ⟨rfl, ba (ba (Below.refl _ _) _) _⟩

set_option maxRecDepth 100000 in
set_option maxHeartbeats 1000000 in
theorem xor_any (a b c d a' b' c' d' : UInt8) (w : World) :
    Calls Try.prog 86 #[.agg #[uv a, uv b, uv c, uv d], .agg #[uv a', uv b', uv c', uv d']] w fun e w' => e = .returned (.agg ((xorW [a, b, c, d] [a', b', c', d']).map uv).toArray) ∧ Below w.heap.size w w' := by
  have HI := Lib.hid (agg4_at a' b' c' d')
  have hA : [a, b, c, d].length = 4 := rfl
  have HA := Lib.hid hA
  have HN : Hid ((xorW [a, b, c, d] [a', b', c', d']).length = 4) := Lib.hid (tab_len _ _)
  have HU : Hid (∀ k, k < 4 → ub (xorW [a, b, c, d] [a', b', c', d']) k = ub [a, b, c, d] k ^^^ ub [a', b', c', d'] k) := Lib.hid fun k hk => ub_tab _ hk
  obtain ⟨N, hN⟩ : ∃ N, xorW [a, b, c, d] [a', b', c', d'] = N := ⟨_, rfl⟩
  rw [hN] at HN HU ⊢
  obtain ⟨B, hB⟩ : ∃ B, [a', b', c', d'] = B := ⟨_, rfl⟩
  rw [hB] at HI HU
  have H0 : Hid (((cutL 0 N [a, b, c, d]).map uv).toArray = #[uv a, uv b, uv c, uv d]) := Lib.hid (by rw [cutL_zero]; rfl)
  obtain ⟨A, hA'⟩ : ∃ A, [a, b, c, d] = A := ⟨_, rfl⟩
  rw [hA'] at HA HU H0
  clear hN hB hA' hA
  go_enter Try.func86, Try.ntmps86
  go_wp2_with fail
  go_loopw [8] (fun iv wr => ∃ k : Nat, k ≤ 4 ∧ iv = .int .i64 k ∧ Hid (Blk wr w.heap.size 76 ((cutL k N A).map uv).toArray) ∧ Hid (Blk wr (w.heap.size + 2) 76 #[uv 0, uv 0, uv 0, uv 0]) ∧ Below w.heap.size w wr) (fun iv _ => 4 - (intOf iv).toNat)
  case atStart =>
    refine ⟨0, by omega, rfl, Lib.hid ?_, Lib.hid ?_, ba (ba (ba (Below.refl _ _) _) _) _⟩
    · rw [H0.out]; exact ((Blk.new w _ _).alloc _).alloc _
    · exact Blk.newAt (by simp) _ _
  case round =>
    obtain ⟨k, hk, rfl, P, Z, hb⟩ := hrel
    by_cases hlt : k < 4
    · have hix := HI.out k hlt
      have hc := (P.out.cell k).trans (row_at (by rw [cutL_len HN.out HA.out hk]; exact hlt))
      rw [ub_cutL HN.out HA.out hk hlt, if_neg (Nat.lt_irrefl _)] at hc
      have hf := P.out.frozen k
      have hset := cutL_set HN.out HA.out hlt
      rw [HU.out k hlt] at hset
      have hx := xor_byte (ub A k) (ub B k)
      generalize ub A k = x at hc hset hx
      generalize ub B k = y at hix hset hx
      obtain ⟨z, hz⟩ : ∃ z, x ^^^ y = z := ⟨_, rfl⟩
      rw [hz] at hset hx
      have HS := Lib.hid hset
      have i0 : (0 : Int) ≤ (k : Int) := by omega
      have i1 : (k : Int) < 4 := by omega
      clear hset hz
      go_wp2
      exact ⟨⟨k + 1, by omega, by go_num, Lib.hid (by have := P.out.set_ k (uv z); rw [HS.out] at this; exact this), Lib.hid (Z.out.far (by simp) _), bs hb (by omega) _⟩, by simp [intOf]; omega⟩
    · obtain rfl : k = 4 := by omega
      have hP := P.out
      rw [cutL_all HN.out HA.out] at hP
      have HONE := Lib.hid (uvs_one N)
      have HZ := HN.out
      go_wp2_with (first | (refine wpList_load_row rfl _ _ rfl _ rfl _ _ _ _ hP Try.underlying76 rfl (wlen HN.out) ?_) | (refine wpList_store_mid rfl _ _ _ rfl _ _ (N.map uv).toArray rfl rfl (Z.out.there (by rw [List.size_toArray, List.length_map, HN.out]; exact Nat.le_refl 4)) (wlen HN.out) (all_oneCell_toArray HONE.out) ?_))
      have hW := Z.out.whole (N.map uv) (by rw [List.length_map, HN.out]; rfl)
      refine bodyPost_ret (v := .agg (N.map uv).toArray) (results_cell_row rfl _ _ _ _ _ _ _ rfl hW Try.underlying76 rfl (wlen HN.out)) rfl ?_
      exact ⟨rfl, bw hb (by omega) _ _⟩
end Go.Proofs.Ytcecjoodlmpgnaa
/- The contracts of a word's boxed, and of wordOf. -/
namespace Go.Proofs.Ytcecjoodlmpgnaa
open Go.RowKit

def bxs : Array Value := (boxT.map bv).toArray
theorem bxs_at (b : UInt8) : bxs[b.toNat]? = some (uv (box8 b)) := boxT_at b

set_option maxRecDepth 100000 in
set_option maxHeartbeats 1000000 in
theorem boxed_any (a b c d : UInt8) (gb : Nat) (w : World) (hx : Blk w gb 5 bxs) :
    Calls Try.prog 93 #[.agg #[uv a, uv b, uv c, uv d], .slice (some ⟨gb, 0, none⟩) 256 256] w fun e w' => e = .returned (.agg ((boxW [a, b, c, d]).map uv).toArray) ∧ Below w.heap.size w w' := by
  have HI := Lib.hid (agg4_at a b c d)
  have HA : Hid ([a, b, c, d].length = 4) := Lib.hid rfl
  have HN : Hid ((boxW [a, b, c, d]).length = 4) := Lib.hid (tab_len _ _)
  have HU : Hid (∀ k, k < 4 → ub (boxW [a, b, c, d]) k = box8 (ub [a, b, c, d] k)) := Lib.hid fun k hk => ub_tab _ hk
  obtain ⟨N, hN⟩ : ∃ N, boxW [a, b, c, d] = N := ⟨_, rfl⟩
  rw [hN] at HN HU ⊢
  have H0 : Hid (((cutL 0 N [a, b, c, d]).map uv).toArray = #[uv a, uv b, uv c, uv d]) := Lib.hid (by rw [cutL_zero]; rfl)
  obtain ⟨A, hA'⟩ : ∃ A, [a, b, c, d] = A := ⟨_, rfl⟩
  rw [hA'] at HA HU H0 HI
  clear hN hA'
  have HX := Lib.hid hx
  have HXA := Lib.hid bxs_at
  obtain ⟨X, hX⟩ : ∃ X, bxs = X := ⟨_, rfl⟩
  rw [hX] at HX HXA
  have hgb := hx.lt
  clear hx hX
  go_enter Try.func93, Try.ntmps93
  go_wp2_with fail
  go_loopw [8] (fun iv wr => ∃ k : Nat, k ≤ 4 ∧ iv = .int .i64 k ∧ Hid (Blk wr w.heap.size 76 ((cutL k N A).map uv).toArray) ∧ Hid (Blk wr (w.heap.size + 1) 76 #[uv 0, uv 0, uv 0, uv 0]) ∧ Below w.heap.size w wr) (fun iv _ => 4 - (intOf iv).toNat)
  case atStart =>
    refine ⟨0, by omega, rfl, Lib.hid ?_, Lib.hid ?_, ba (ba (Below.refl _ _) _) _⟩
    · rw [H0.out]; exact (Blk.new w _ _).alloc _
    · exact Blk.newAt (by simp) _ _
  case round =>
    obtain ⟨k, hk, rfl, P, Z, hb⟩ := hrel
    by_cases hlt : k < 4
    · have hix := HI.out k hlt
      have hf := P.out.frozen k
      have hset := cutL_set HN.out HA.out hlt
      rw [HU.out k hlt] at hset
      have hc := (P.out.cell k).trans (row_at (by rw [cutL_len HN.out HA.out hk]; exact hlt))
      generalize ub A k = x at hix hset
      have hbx := ((HX.out.below hb).cell x.toNat).trans (HXA.out x)
      have hx8 := x.toNat_lt
      generalize box8 x = z at hbx hset
      have HS := Lib.hid hset
      have i0 : (0 : Int) ≤ (k : Int) := by omega
      have i1 : (k : Int) < 4 := by omega
      clear hset
      go_wp2
      exact ⟨⟨k + 1, by omega, by go_num, Lib.hid (by have := P.out.set_ k (uv z); rw [HS.out] at this; exact this), Lib.hid (Z.out.far (by simp) _), bs hb (by omega) _⟩, by simp [intOf]; omega⟩
    · obtain rfl : k = 4 := by omega
      have hP := P.out
      rw [cutL_all HN.out HA.out] at hP
      have HONE := Lib.hid (uvs_one N)
      have HZ := HN.out
      go_wp2_with (first | (refine wpList_load_row rfl _ _ rfl _ rfl _ _ _ _ hP Try.underlying76 rfl (wlen HN.out) ?_) | (refine wpList_store_mid rfl _ _ _ rfl _ _ (N.map uv).toArray rfl rfl (Z.out.there (by rw [List.size_toArray, List.length_map, HN.out]; exact Nat.le_refl 4)) (wlen HN.out) (all_oneCell_toArray HONE.out) ?_))
      have hW := Z.out.whole (N.map uv) (by rw [List.length_map, HN.out]; rfl)
      refine bodyPost_ret (v := .agg (N.map uv).toArray) (results_cell_row rfl _ _ _ _ _ _ _ rfl hW Try.underlying76 rfl (wlen HN.out)) rfl ?_
      exact ⟨rfl, bw hb (by omega) _ _⟩

set_option maxRecDepth 100000 in
set_option maxHeartbeats 1000000 in
theorem wordOf_any (l : List UInt8) (w : World) (hl : 4 ≤ l.length) :
    Calls Try.prog 62 #[.string ⟨l.toArray⟩] w fun e w' => e = .returned (.agg #[uv (ub l 0), uv (ub l 1), uv (ub l 2), uv (ub l 3)]) ∧ Below w.heap.size w w' := by
  have hB : Blk ((w.alloc (.cells #[.int .u8 0, .int .u8 0, .int .u8 0, .int .u8 0] 76)).alloc (.cells #[.int .u8 0, .int .u8 0, .int .u8 0, .int .u8 0] 76)) (w.heap.size + 1) 76 #[.int .u8 0, .int .u8 0, .int .u8 0, .int .u8 0] := Blk.newAt (by simp) _ _
  have hR : Blk ((w.alloc (.cells #[.int .u8 0, .int .u8 0, .int .u8 0, .int .u8 0] 76)).alloc (.cells #[.int .u8 0, .int .u8 0, .int .u8 0, .int .u8 0] 76)) w.heap.size 76 #[.int .u8 0, .int .u8 0, .int .u8 0, .int .u8 0] := (Blk.new w _ _).alloc _
  have hcp := copy_text _ _ 4 l _ _ hB hl rfl
  have hbb : Below w.heap.size w ((w.alloc (.cells #[.int .u8 0, .int .u8 0, .int .u8 0, .int .u8 0] 76)).alloc (.cells #[.int .u8 0, .int .u8 0, .int .u8 0, .int .u8 0] 76)) := ba (ba (Below.refl _ _) _) _
  have htk : l.take 4 = [ub l 0, ub l 1, ub l 2, ub l 3] := list_ext (n := 4) (by rw [List.length_take]; omega) rfl (fun i hi => by
    rw [ub_at (by rw [List.length_take]; omega), List.getElem_take, ← ub_at]
    obtain rfl | rfl | rfl | rfl : i = 0 ∨ i = 1 ∨ i = 2 ∨ i = 3 := by omega
    all_goals rfl)
  rw [htk] at hcp
  generalize ub l 0 = a at hcp ⊢
  generalize ub l 1 = b at hcp ⊢
  generalize ub l 2 = c at hcp ⊢
  generalize ub l 3 = d at hcp ⊢
  have hB2 := hB.setRow ([a, b, c, d].map uv).toArray
  have hR2 := hR.setRow_far (k := w.heap.size) (g := w.heap.size + 1) (by omega) ([a, b, c, d].map uv).toArray
  have hbb2 := below_setRow hbb (g := w.heap.size + 1) (by omega) ([a, b, c, d].map uv).toArray
  obtain ⟨w2, hw2⟩ : ∃ w2, World.setRow ((w.alloc (.cells #[.int .u8 0, .int .u8 0, .int .u8 0, .int .u8 0] 76)).alloc (.cells #[.int .u8 0, .int .u8 0, .int .u8 0, .int .u8 0] 76)) (w.heap.size + 1) ([a, b, c, d].map uv).toArray = w2 := ⟨_, rfl⟩
  rw [hw2] at hcp hB2 hR2 hbb2
  have HB := Lib.hid hB2
  have HR := Lib.hid hR2
  clear hw2 hB hR hbb htk hB2 hR2
  go_enter Try.func62, Try.ntmps62
  go_wp2_with (first | (refine wpList_load_row rfl _ _ rfl _ rfl _ _ _ _ HB.out Try.underlying76 rfl (by kernel_rfl) ?_) | (refine wpList_store_mid rfl _ _ _ rfl _ _ ([a, b, c, d].map uv).toArray rfl rfl (HR.out.there (by simp)) (by kernel_rfl) (all_oneCell_toArray (uvs_one _)) ?_))
  have hW := HR.out.whole ([a, b, c, d].map uv) rfl
  refine bodyPost_ret (v := .agg ([a, b, c, d].map uv).toArray) (results_cell_row rfl _ _ _ _ _ _ _ rfl hW Try.underlying76 rfl (by kernel_rfl)) rfl ?_
  exact ⟨rfl, bw hbb2 (by omega) _ _⟩
end Go.Proofs.Ytcecjoodlmpgnaa
