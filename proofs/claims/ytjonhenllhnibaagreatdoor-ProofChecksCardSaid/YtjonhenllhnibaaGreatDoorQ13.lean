/- Texts of this seat, one behind the other: VRow, VTz, VHeight, VHeights, VLaw, VRefs, VHands, VCollect, VLaid. -/
import Derived.Laws.MakeOwn
import Derived.Lib.TrailingZeros
import Derived.Laws.Bits64b
import Derived.RangeFuncBox
import Derived.RangeFuncNested
import Derived.RangeFuncBound
import Derived.RangeFuncCalls
import Derived.RangeFuncLeaves
import Derived.Shelf.Abstract
import Derived.Shelf.RegionOpen
import Derived.OwnWalkIn
import Derived.TacticsInMore
import Derived.LoopNIn
import Derived.LoopIn
import Derived.LaidMore
import Derived.OpenShut
import Derived.Stop.Joined
import Derived.Test.YtjonhenllhnibaaGreatDoorQ01
import Derived.Test.YtjonhenllhnibaaGreatDoorQ04
import Derived.Test.YtjonhenllhnibaaGreatDoorQ12
/- Rows of numbers in memory (of type int, or uint64), and the words for a row that the call made. Nothing of any function. -/
namespace Go.Proofs.YtjonhenllhnibaaGreatDoor
open Go.RowKit

/-- A number's cell: an int's, and a uint64's. -/
abbrev vi (x : Nat) : Value := .int .i64 (x : Int)
abbrev vu (x : Nat) : Value := .int .u64 (x : Int)
/-- A row that can be read: where it lies, if it has any. -/
def VR (q : Nat → Value) (w : World) (A : Option Addr) (L : List Nat) : Prop :=
  ∀ j, j < L.length → ∃ g off, A = some ⟨g, off, none⟩ ∧ w.cell? ⟨g, off + j, none⟩ = some (q (L.getD j 0))
section
variable {q : Nat → Value} {w w' : World} {A : Option Addr} {L : List Nat}
theorem VR.later (h : VR q w A L) (hb : Below w.heap.size w w') : VR q w' A L := fun j hj => by
  obtain ⟨g, off, e, h0⟩ := h j hj
  exact ⟨g, off, e, cell_later hb h0⟩
theorem VR.nil (q : Nat → Value) (w : World) (A : Option Addr) : VR q w A [] := fun j hj => absurd hj (by simp)
theorem vget_take (L : List Nat) (m j : Nat) (h : j < m) : (L.take m).getD j 0 = L.getD j 0 := by
  simp [List.getD, h]
theorem VR.take (h : VR q w A L) (m : Nat) : VR q w A (L.take m) := fun j hj => by
  rw [List.length_take] at hj
  obtain ⟨g, off, e, h0⟩ := h j (by omega)
  exact ⟨g, off, e, by rw [vget_take _ _ _ (by omega)]; exact h0⟩
theorem vqs_at (q : Nat → Value) (L : List Nat) (j : Nat) (h : j < L.length) : (L.map q)[j]? = some (q (L.getD j 0)) := by
  simp [List.getD, h]
theorem own_VR {W : World} {base : Nat} {e : TypeId} {n c : Nat} (h : W.ownsRow base e 1 (.slice A n c) n (L.map q)) (hl : L.length = n) : VR q W A L := by
  obtain ⟨A', c', e, hh⟩ := own_form h
  injection e with e1 e2 e3
  subst e1
  subst e3
  rcases hh with ⟨rfl, rfl, rfl⟩ | ⟨g, rfl, _⟩
  · obtain rfl : L = [] := List.eq_nil_of_length_eq_zero hl
    exact VR.nil _ _ _
  · intro j hj
    exact ⟨g, 0, rfl, by rw [Nat.zero_add, h.cellAt j (by omega), vqs_at q L j hj]⟩
theorem blk_VR {W : World} {g : Nat} {t : TypeId} (h : Blk W g t (L.map q).toArray) : VR q W (some ⟨g, 0, none⟩) L := fun j hj =>
  ⟨g, 0, rfl, by rw [Nat.zero_add, h.cell j, List.getElem?_toArray, vqs_at q L j hj]⟩
end
theorem vget_ext {L M : List Nat} {n : Nat} (hl : L.length = n) (hm : M.length = n) (h : ∀ j, j < n → L.getD j 0 = M.getD j 0) : L = M := by
  apply List.ext_getElem
  · rw [hl, hm]
  · intro i h1 h2
    have := h i (by omega)
    simpa [List.getD, h1, h2] using this
theorem infoVI : (Tryz.prog.info? 3).map (fun i => (i.zero, i.size, i.bytes)) = some (some (.int .i64 0), 1, 8) := by kernel_rfl

theorem vmake_ints (n : Nat) (hn : n ≤ 65536) (W : World) : (Instr.makeSlice 36 (.int .i64 (n : Int)) (.int .i64 (n : Int))).run Tryz.prog W = .ok (.slice (some ⟨W.heap.size, 0, none⟩) n n) (W.alloc (.cells (Array.replicate n (vi 0)) 3)) := by
  obtain ⟨i0, hi, hz0, hz1, hz2⟩ := info_parts infoVI
  have h := run_makeSlice (P := Tryz.prog) (w := W) 36 3 i0 (.int .i64 0) Tryz.underlying36 hi hz0 .i64 .i64 n n (by omega) (by omega) (by rw [hz1]; omega) (by rw [hz2]; omega) (by omega)
  rw [hz1] at h
  have e : madeCells (Value.int .i64 0).cells ((n : Int).toNat * 1) = (Array.replicate n (vi 0)) := by
    simp [madeCells, Value.cells]
    apply Array.ext
    · simp
    · intro i h1 h2
      simp [Nat.mod_one]
  rw [e] at h
  exact h
/-- What is filled so far: the first ones are as they are to be, the others 0. -/
def vfill (T : List Nat) (j : Nat) : List Nat := (List.range T.length).map fun i => if i < j then T.getD i 0 else 0
theorem vfill_zero (T : List Nat) : vfill T 0 = List.replicate T.length 0 := by
  apply List.ext_getElem
  · simp [vfill]
  · intro i h1 h2
    simp [vfill]
theorem vfill_all (T : List Nat) : vfill T T.length = T := by
  apply List.ext_getElem
  · simp [vfill]
  · intro i h1 h2
    have h3 : i < T.length := by simpa [vfill] using h1
    simp [vfill, h3, List.getD]
theorem vfill_set (T : List Nat) (j x : Nat) (hx : T.getD j 0 = x) : (vfill T j).set j x = vfill T (j + 1) := by
  subst hx
  apply List.ext_getElem
  · simp [vfill]
  · intro i h1 h2
    rw [List.getElem_set]
    simp only [vfill, List.getElem_map, List.getElem_range]
    by_cases hij : j = i
    · subst hij
      rw [if_pos rfl, if_pos (by omega)]
    · rw [if_neg hij]
      by_cases h1 : i < j
      · rw [if_pos h1, if_pos (by omega)]
      · rw [if_neg h1, if_neg (by omega)]
theorem vblk_fill {W : World} {g : Nat} {t : TypeId} {T : List Nat} {j x : Nat} (q : Nat → Value) (h : Blk W g t ((vfill T j).map q).toArray) (hx : T.getD j 0 = x) : Blk (W.setCell ⟨g, j, none⟩ (q x)) g t ((vfill T (j + 1)).map q).toArray := by
  have h2 := h.set_ j (q x)
  have e : ((vfill T j).map q).toArray.setIfInBounds j (q x) = ((vfill T (j + 1)).map q).toArray := by
    apply Array.toList_inj.1
    rw [Array.toList_setIfInBounds, ← vfill_set T j x hx, List.map_set]
  rwa [e] at h2
end Go.Proofs.YtjonhenllhnibaaGreatDoor
/- math/bits.TrailingZeros64, every number: the library's own table is read as its initialiser lays it. How high a number is: halvings, counted. -/
namespace Go.Proofs.YtjonhenllhnibaaGreatDoor
open Go.RowKit

/-- The table in its variable. -/
def VTab (w : World) : Prop := ∀ j, j < 64 → w.cell? ⟨0, j, none⟩ = some (.int .u8 (Lib.deBruijn64tab.getD j 0 : Nat))
theorem VTab.lt {w : World} (h : VTab w) : 0 < w.heap.size := World.block_lt_of_cell? _ _ (h 0 (by omega))
theorem VTab.later {w w' : World} (h : VTab w) (hb : Below w.heap.size w w') : VTab w' := fun j hj => cell_later hb (h j hj)

/-- So many halvings at most: how often a number is halved without a rest, and 1. -/
def hg : Nat → Nat → Nat
  | 0, _ => 1
  | k + 1, x => if x % 2 = 0 then hg k (x / 2) + 1 else 1
def hgt (x : Nat) : Nat := hg 7 x
theorem hg_le (k x : Nat) : 1 ≤ hg k x ∧ hg k x ≤ k + 1 := by
  induction k generalizing x with
  | zero => simp [hg]
  | succ k ih =>
    unfold hg
    have := ih (x / 2)
    split <;> omega
theorem hgt_le (x : Nat) : 1 ≤ hgt x ∧ hgt x ≤ 8 := hg_le 7 x
theorem hg_zero (k : Nat) : hg k 0 = k + 1 := by
  induction k with
  | zero => rfl
  | succ k ih => rw [hg, if_pos (by omega), show 0 / 2 = 0 from rfl, ih]
theorem hg_from (f k x : Nat) (h0 : 0 < x) (hx : x < 2 ^ f) : hg k x = min (Lib.ctzFrom f x + 1) (k + 1) := by
  induction k generalizing x f with
  | zero => simp [hg]
  | succ k ih =>
    cases f with
    | zero => simp at hx; omega
    | succ f =>
      rw [hg, Lib.ctzFrom]
      by_cases h : x % 2 = 0
      · rw [if_pos h, if_neg (by omega), ih f (x / 2) (by omega) (by rw [Nat.pow_succ] at hx; omega)]
        omega
      · rw [if_neg h, if_pos (by omega)]
        omega
theorem hgt_ctz (x : Nat) (hx : x < 18446744073709551616) : Lib.ctz 64 x ≤ 64 ∧ min (Lib.ctz 64 x + 1) 8 = hgt x := by
  unfold Lib.ctz hgt
  split
  · rename_i h
    subst h
    exact ⟨by omega, by rw [hg_zero]; decide⟩
  · rename_i h
    have := Lib.ctzFrom_spec 64 x (by omega) hx
    obtain ⟨_, _, hk⟩ := this
    exact ⟨by omega, (hg_from 64 7 x (by omega) hx).symm⟩

theorem vtz_key (x a : Nat) (hx : x < 18446744073709551616) (hx0 : x ≠ 0) (hlow : x &&& (18446744073709551616 - x) = a) :
    IntKind.u64.wrap (bits BinOp.and IntKind.u64 (x : Int) (IntKind.u64.wrap (-(x : Int))) * 285870213051353865) / 288230376151711744 = ((a * 285870213051353865 % 18446744073709551616 / 288230376151711744 : Nat) : Int) := by
  have e1 : IntKind.u64.wrap (-(x : Int)) = ((18446744073709551616 - x : Nat) : Int) := by rw [IntKind.wrap_u64]; omega
  rw [e1, bits_and_u64_nat x _ hx (by omega), hlow, IntKind.wrap_u64]
  omega

set_option maxRecDepth 100000 in
set_option maxHeartbeats 1000000 in
theorem vtz_walk (x k idx : Nat) (w : World) (hx0 : ((x : Int) == 0) = false)
    (key : IntKind.u64.wrap (bits BinOp.and IntKind.u64 (x : Int) (IntKind.u64.wrap (-(x : Int))) * 285870213051353865) / 288230376151711744 = (idx : Int))
    (hi : idx < 64) (hk : k < 64) (hcell : w.cell? ⟨0, idx, none⟩ = some (.int .u8 k)) :
    Calls Tryz.prog 102 #[.int .u64 x] w fun e w' => e = .returned (.int .i64 k) ∧ w = w' := by
  go_enter Tryz.func102, Tryz.ntmps102
  go_wp2_with (simp only [key])
  go_ret
  exact ⟨rfl, rfl⟩
set_option maxRecDepth 100000 in
set_option maxHeartbeats 1000000 in
theorem vtz_zero (w : World) : Calls Tryz.prog 102 #[.int .u64 0] w fun e w' => e = .returned (.int .i64 64) ∧ w = w' := by
  go_enter Tryz.func102, Tryz.ntmps102
  go_wp2
  go_ret
  exact ⟨rfl, rfl⟩
theorem vtz_any (x : Nat) (hx : x < 18446744073709551616) (w : World) (hT : VTab w) :
    Calls Tryz.prog 102 #[.int .u64 (x : Int)] w fun e w' => e = .returned (.int .i64 (Lib.ctz 64 x : Int)) ∧ w = w' := by
  by_cases hx0 : x = 0
  · subst hx0
    exact vtz_zero w
  · obtain ⟨hlow, hk⟩ := Lib.lowest_bit 64 x hx0 hx
    obtain ⟨hi, htab⟩ := Lib.deBruijn64_at _ hk
    have hcell := hT _ hi
    rw [htab] at hcell
    exact vtz_walk x _ _ w (by simp; omega) (vtz_key x _ hx hx0 hlow) hi hk hcell

set_option maxRecDepth 100000 in
set_option maxHeartbeats 1000000 in
theorem vheightOf_any (x : Nat) (hx : x < 18446744073709551616) (w : World) (hT : VTab w) :
    Calls Tryz.prog 77 #[.int .u64 (x : Int)] w fun e w' => e = .returned (.int .i64 (hgt x : Int)) ∧ w = w' := by
  have T1 := Lib.hid (vtz_any x hx w hT)
  obtain ⟨hc, hm⟩ := hgt_ctz x hx
  generalize Lib.ctz 64 x = c at *
  generalize hgt x = m at *
  have E1 := Lib.hid hm
  clear hm hx hT
  go_enter Tryz.func77, Tryz.ntmps77
  go_wp2_with fail
  refine T1.out.mono ?_
  rintro e w1 ⟨rfl, rfl⟩
  go_wp2
  all_goals go_ret
  all_goals refine ⟨?_, rfl⟩
  all_goals have hE := E1.out
  all_goals first
    | (rw [show (m : Int) = 8 by omega]; rfl)
    | (rw [show (m : Int) = (c : Int) + 1 by omega]; rfl)
    | (rw [show (m : Int) = min ((c : Int) + 1) 8 by omega]; rfl)
end Go.Proofs.YtjonhenllhnibaaGreatDoor
/- The contracts of Height, and of the reference's: the height that a key's number for a number's bytes tells. -/
namespace Go.Proofs.YtjonhenllhnibaaGreatDoor
open Go.RowKit

/-- A number's height, by a key. -/
def hL (k : List UInt8) (n : Nat) : Nat := hgt (wordL k (low n 8))
theorem hL_le (k : List UInt8) (n : Nat) : 1 ≤ hL k n ∧ hL k n ≤ 8 := hgt_le _

set_option maxRecDepth 100000 in
set_option maxHeartbeats 1000000 in
theorem vheight_any (k : List UInt8) (n : Nat) (w : World) (hk : k.length ≤ 60000) (hn : n < 18446744073709551616) (hT : VTab w) :
    Calls Tryz.prog 54 #[.string ⟨k.toArray⟩, .int .u64 (n : Int)] w fun e w' => e = .returned (.int .i64 (hL k n : Int)) ∧ Below w.heap.size w w' := by
  have T1 := Lib.hid (number_any n w (by omega))
  have T2 := Lib.hid (fun W => tword_any k (low n 8) W hk (by rw [low_length]; omega))
  have T3 := Lib.hid (fun W (h : Below w.heap.size w W) => vheightOf_any (wordL k (low n 8)) (wordL_lt _ _) W (hT.later h))
  have HH : Hid (hL k n = hgt (wordL k (low n 8))) := Lib.hid rfl
  rw [← HH.out] at T3
  clear HH hT hn
  generalize hL k n = h at *
  generalize wordL k (low n 8) = x at *
  generalize low n 8 = s at *
  go_enter Tryz.func54, Tryz.ntmps54
  go_wp2_with fail
  refine T1.out.mono ?_
  rintro e w1 ⟨rfl, hb1⟩
  go_wp2_with fail
  refine (T2.out _).mono ?_
  rintro e w2 ⟨rfl, hb2⟩
  have hb3 := bt hb1 hb2
  go_wp2_with fail
  refine (T3.out _ hb3).mono ?_
  rintro e w3 ⟨rfl, rfl⟩
  go_wp2
  go_ret
  exact ⟨rfl, hb3⟩

set_option maxRecDepth 100000 in
set_option maxHeartbeats 1000000 in
theorem vrheight_any (k : List UInt8) (n : Nat) (w : World) (hk : k.length ≤ 60000) (hn : n < 18446744073709551616) :
    Calls Tryz.prog 60 #[.string ⟨k.toArray⟩, .int .u64 (n : Int)] w fun e w' => e = .returned (.int .i64 (hL k n : Int)) ∧ Below w.heap.size w w' := by
  have T1 := Lib.hid (show Calls Tryz.prog 72 #[.int .u64 (n : Int), .int .i64 8] w fun e w' => e = .returned (.string ⟨(low n 8).toArray⟩) ∧ Below w.heap.size w w' from rlow_any n 8 w (by omega) (by omega))
  have T2 := Lib.hid (fun W => rtword_any k (low n 8) W hk (by rw [low_length]; omega))
  have HH : Hid (hg 7 (wordL k (low n 8)) + 1 = 1 + hL k n) := Lib.hid (Nat.add_comm _ _)
  have HX := Lib.hid (wordL_lt k (low n 8))
  clear hn
  generalize hL k n = h at *
  generalize wordL k (low n 8) = x at *
  generalize low n 8 = s at *
  go_enter Tryz.func60, Tryz.ntmps60
  go_wp2_with fail
  refine T1.out.mono ?_
  rintro e w1 ⟨rfl, hb1⟩
  go_wp2_with fail
  refine (T2.out _).mono ?_
  rintro e w2 ⟨rfl, hb2⟩
  have HB := Lib.hid (bt hb1 hb2)
  clear hb1 hb2
  go_wp2_with fail
  go_loop [5, 6] (fun xv ov => ∃ y o r : Nat, xv = .int .u64 (y : Int) ∧ ov = .int .i64 (o : Int) ∧ o + r = 8 ∧ 1 ≤ o ∧ Hid (y < 18446744073709551616 ∧ hg r y + o = 1 + h + 0 * r)) (fun _ o => 8 - (intOf o).toNat)
  case atStart => exact ⟨x, 1, 7, rfl, rfl, rfl, by omega, Lib.hid ⟨HX.out, by have := HH.out; omega⟩⟩
  case round =>
    obtain ⟨y, o, r, rfl, rfl, hor, ho1, HY⟩ := hrel
    have h1 := HY.out
    by_cases he : y % 2 = 0
    · have hd : ((y : Int) % 2 == 0) = true := by simp; omega
      by_cases h8 : o < 8
      · obtain ⟨r, rfl⟩ : ∃ t, r = t + 1 := ⟨r - 1, by omega⟩
        rw [hg, if_pos he] at h1
        obtain ⟨z, hz⟩ : ∃ z, y / 2 = z := ⟨_, rfl⟩
        have hq : (y : Int) / 2 = (z : Int) := by omega
        rw [hz] at h1
        have HN : Hid (z < 18446744073709551616 ∧ hg r z + (o + 1) = 1 + h + 0 * r) := Lib.hid ⟨by omega, by omega⟩
        have HO := Lib.hid (show o + 1 + r = 8 by omega)
        have hwz : IntKind.u64.wrap (z : Int) = (z : Int) := by rw [IntKind.wrap_u64]; omega
        clear h1 hz hor HY he
        go_wp2
        exact ⟨⟨z, o + 1, r, rfl, by go_num, HO.out, by omega, HN⟩, by simp [intOf]; omega⟩
      · obtain rfl : r = 0 := by omega
        obtain rfl : o = 8 := by omega
        obtain rfl : h = 8 := by simp [hg] at h1; omega
        clear h1 HY he h8
        go_wp2
        go_ret
        exact ⟨rfl, HB.out⟩
    · have hd : ((y : Int) % 2 == 0) = false := by simp; omega
      have hh : h = o := by
        cases r with
        | zero => simp [hg] at h1; omega
        | succ r => rw [hg, if_neg he] at h1; omega
      clear h1 HY he
      subst hh
      go_wp2
      go_ret
      exact ⟨rfl, HB.out⟩
end Go.Proofs.YtjonhenllhnibaaGreatDoor
/- The contract of Heights: a row of its own. -/
namespace Go.Proofs.YtjonhenllhnibaaGreatDoor
open Go.RowKit

/-- Several numbers' heights, in order. -/
def hsL (k : List UInt8) (L : List Nat) : List Nat := L.map (hL k)
theorem hsL_len (k : List UInt8) (L : List Nat) : (hsL k L).length = L.length := by simp [hsL]
theorem hsL_at (k : List UInt8) (L : List Nat) (j : Nat) (h : j < L.length) : (hsL k L).getD j 0 = hL k (L.getD j 0) := by
  simp [hsL, List.getD, h]

set_option maxRecDepth 100000 in
set_option maxHeartbeats 2000000 in
theorem vheights_any (k : List UInt8) (A : Option Addr) (n c : Nat) (L : List Nat) (w : World) (hk : k.length ≤ 60000) (hA : VR vu w A L) (hl : L.length = n) (hx : ∀ x ∈ L, x < 18446744073709551616) (hn : n ≤ 65536) (hT : VTab w) :
    Calls Tryz.prog 28 #[.string ⟨k.toArray⟩, .slice A n c] w fun e w' => ∃ g, e = .returned (.slice (some ⟨g, 0, none⟩) n n) ∧ Blk w' g 3 (((hsL k L).map vi).toArray) ∧ Below w.heap.size w w' := by
  have e1 := vmake_ints n hn
  have HTl : Hid ((hsL k L).length = n) := Lib.hid (by rw [hsL_len, hl])
  have HB0 : Below w.heap.size w (w.alloc (.cells (Array.replicate n (vi 0)) 3)) := ba (Below.refl _ _) _
  have HG0 : Blk (w.alloc (.cells (Array.replicate n (vi 0)) 3)) w.heap.size 3 (((vfill (hsL k L) 0).map vi).toArray) := by
    have := Blk.new w 3 (Array.replicate n (vi 0))
    rwa [vfill_zero, HTl.out, List.map_replicate, List.toArray_replicate]
  have HH := Lib.hid (fun j W (hj : j < n) (hb : Below w.heap.size w W) => by
    have := vheight_any k (L.getD j 0) W hk (hx _ (by rw [List.getD, List.getElem?_eq_getElem (by omega)]; exact List.getElem_mem _)) (hT.later hb)
    rwa [← hsL_at k L j (by omega)] at this)
  have HR := Lib.hid (fun j W (hj : j < n) (hb : Below w.heap.size w W) => (hA.later hb) j (by omega))
  have HALL : Hid (vfill (hsL k L) n = hsL k L) := Lib.hid (by have := vfill_all (hsL k L); rwa [HTl.out] at this)
  clear hA hx hT hl hk
  generalize hsL k L = T at *
  go_enter Tryz.func28, Tryz.ntmps28
  go_upto_region 2 with fail
  generalize w.alloc (.cells (Array.replicate n (vi 0)) 3) = w1 at HB0 HG0 ⊢
  clear e1
  go_wp2_with fail
  go_loopw [13] (fun iv wr => ∃ j : Nat, j ≤ n ∧ iv = .int .i64 (j : Int) ∧ Hid (Blk wr w.heap.size 3 (((vfill T j).map vi).toArray)) ∧ Hid (Below w.heap.size w wr)) (fun i _ => n - (intOf i).toNat)
  case atStart => exact ⟨0, Nat.zero_le _, rfl, Lib.hid HG0, Lib.hid HB0⟩
  case round =>
    clear HB0 HG0
    obtain ⟨j, hj, rfl, HG, HB⟩ := hrel
    by_cases hlt : j < n
    · obtain ⟨g, off, rfl, c0⟩ := HR.out j wr hlt HB.out
      have HHj := Lib.hid (fun W (hb : Below wr.heap.size wr W) => HH.out j W hlt (bt HB.out hb))
      obtain ⟨x, hx⟩ : ∃ x, T.getD j 0 = x := ⟨_, rfl⟩
      have HX := Lib.hid hx
      rw [hx] at HHj
      generalize L.getD j 0 = y at c0 HHj
      have i0 : (0 : Int) ≤ (j : Int) := by omega
      have i1 : (j : Int) < (n : Int) := by omega
      have HJ : Hid (j < T.length) := Lib.hid (by rw [HTl.out]; exact hlt)
      clear hx
      go_wp2_with fail
      refine (HHj.out _ (Below.refl _ _)).mono ?_
      rintro e2 w2 ⟨rfl, hb2⟩
      have HG2 := HG.out.below hb2
      have d0 : w2.cell? ⟨w.heap.size, j, none⟩ = some (vi ((vfill T j).getD j 0)) := by
        rw [HG2.cell j, List.getElem?_toArray, vqs_at vi _ j (by have := HJ.out; simp [vfill]; omega)]
      have d1 := HG2.frozen j
      have HG3 := Lib.hid (vblk_fill vi HG2 HX.out)
      have HB3 := Lib.hid (bs (b := w.heap.size) (o := j) (bt HB.out hb2) (Nat.le_refl _) (vi x))
      clear HG2 hb2
      go_wp2_with fail
      exact ⟨⟨j + 1, by omega, by go_num, HG3, HB3⟩, by simp [intOf]; omega⟩
    · obtain rfl : j = n := by omega
      rw [HALL.out] at HG
      go_wp2
      go_ret
      exact ⟨_, rfl, HG.out, HB.out⟩
end Go.Proofs.YtjonhenllhnibaaGreatDoor
/- A loop over a function that hands values on and only makes memory: what the loop owes, what the function owes. The body may turn whatever lies from a line on. Nothing of any function. -/
namespace Go.Proofs.YtjonhenllhnibaaGreatDoor
open Go.RowKit Go.Shelf

/-- A turned block that is none of the body's: from B on, and no cells. -/
def RowV (B : Nat) (W : World) (row : Option Nat) : Prop :=
  ∀ r, row = some r → B ≤ r ∧ ∃ o, W.heap[r]? = some o ∧ o.isCells = false
def KeptV {β : Type} (B : Nat) (J : β → World → Prop) : Prop := ∀ s W W' row, J s W → W.grownBy W' row → RowV B W row → J s W'
/-- It abides what is made new. -/
def AbV {β : Type} (J : β → World → Prop) : Prop := ∀ s W W', J s W → Below W.heap.size W W' → J s W'
/-- What a round that goes on keeps: all below n₀. -/
def KpV (n₀ : Nat) (W W' : World) : Prop := Below n₀ W W'
theorem KpV.trans {n₀ : Nat} {A B C : World} (h : KpV n₀ A B) (k : KpV n₀ B C) : KpV n₀ A C := Below.trans h k
theorem KpV.refl (n₀ : Nat) (W : World) : KpV n₀ W W := Below.refl _ _
theorem KpV.of_below {n₀ : Nat} {A B : World} (h : Below A.heap.size A B) (hn : n₀ ≤ A.heap.size) : KpV n₀ A B := Below.mono h hn
theorem KpV.putObj {n₀ l : Nat} {W : World} {o o' : Obj} (hn : n₀ ≤ l) (hl : W.heap[l]? = some o) : KpV n₀ W (W.putObj l o') :=
  (Below.refl n₀ W).grown (grownBy_putObj' W l o') (by have := (Array.getElem?_eq_some_iff.1 hl).1; omega) (fun k e => by cases e; exact hn)

/-- What is asked of the function that hands the values on. -/
def HandsV {α : Type} (e1 : α → Value) (n gf : Nat) (lb : Array Value) (n₀ : Nat) (zs : List α) (w : World) : Prop :=
  ∀ (l : Nat) (J Jx : List α → World → Prop) (W : World), Below w.heap.size w W → AbV J →
    (∀ pre x W1, J pre W1 → (pre ++ [x]) <+: zs → YieldAt Fence.wide (n - 1) Tryz.prog l #[e1 x] W1 fun e W' =>
      (e = .returned (.bool true) ∧ J (pre ++ [x]) W' ∧ KpV n₀ W1 W') ∨ (e = .returned (.bool false) ∧ Jx (pre ++ [x]) W')) → J [] W →
    CallsIn Fence.wide n Tryz.prog gf (#[.func (.yield l) #[] #[]] ++ lb) W fun e W' => (∃ v, e = .returned v) ∧ (J zs W' ∨ ∃ pre, pre <+: zs ∧ Jx pre W')

/-- How a round may be left. -/
def LeftV {α : Type} (B n₀ : Nat) (I : List α → World → Prop) (Ix : Code → List α → World → Prop) (xs : List α) (W : World) : Exit → Act → World → Prop
  | .normal, _, W' => KeepsFrom B W W' ∧ KpV n₀ W W' ∧ I xs W'
  | .ret, _, W' => KeepsFrom B W W' ∧ Ix .ret xs W'
  | _, _, _ => False

theorem RowV.cells {B : Nat} {W W' : World} {row : Option Nat} {k : Nat} {o : Obj} (h : RowV B W row) (hg : W.grownBy W' row) (hk : W.heap[k]? = some o) (hc : o.isCells = true) : W'.heap[k]? = some o := by
  refine (hg.block k (Array.getElem?_eq_some_iff.1 hk).1 (fun e => ?_)).trans hk
  obtain ⟨_, o', ho, hn⟩ := h k e.symm
  rw [hk] at ho; cases ho; rw [hc] at hn; cases hn
theorem RowV.blk {B : Nat} {W W' : World} {row : Option Nat} {k : Nat} {t : TypeId} {cs : Array Value} (h : RowV B W row) (hg : W.grownBy W' row) (hb : Blk W k t cs) : Blk W' k t cs := h.cells hg hb rfl
theorem KeptV.below {β : Type} {B : Nat} {J : β → World → Prop} (h : KeptV B J) {s : β} {W W' : World} (hs : J s W) (hb : Below W.heap.size W W') : J s W' :=
  h s W W' none hs ⟨hb.os, hb.tape, hb.output, hb.size, fun k hk _ => hb.block k hk⟩ (fun r e => by cases e)
theorem KeptV.alloc {β : Type} {B : Nat} {J : β → World → Prop} (h : KeptV B J) {s : β} {W : World} (o : Obj) (hs : J s W) : J s (W.alloc o) := h s W _ none hs (World.grownBy_alloc W o none) (fun r e => by cases e)
theorem KeptV.putObj {β : Type} {B : Nat} {J : β → World → Prop} (h : KeptV B J) {s : β} {W : World} {l : Nat} {o : Obj} (o' : Obj) (hs : J s W) (hB : B ≤ l) (hl : W.heap[l]? = some o) (ho : o.isCells = false) : J s (W.putObj l o') :=
  h s W _ (some l) hs (grownBy_putObj' W l o') (fun r e => by cases e; exact ⟨hB, o, hl, ho⟩)

set_option maxHeartbeats 1000000 in
theorem range_v {α : Type} {e1 : α → Value} {n : Nat} {g : Operand} {p : Tmp} {assign body : Code} {Q : Exit → Act → World → Prop} {a : Act} {w w0 : World} (hn : 1 ≤ n) {gf : Nat} {lb : Array Value}
    (hg : a.eval g = .func (.func gf) #[] lb) (eg : ∀ args w, (callFunc gf args).run Tryz.prog w = .ok (.enter gf args) w) {n₀ : Nat} (hn₀ : n₀ ≤ w.heap.size) {zs : List α} (hH : HandsV e1 (n - 1) gf lb n₀ zs w0) (hb0 : Below w0.heap.size w0 w)
    (I : List α → World → Prop) (Ix : Code → List α → World → Prop) (hI : KeptV w.heap.size I) (hIx : ∀ c, KeptV w.heap.size (Ix c)) (h0 : I [] w) (Ax : α → Act → World → Prop) (hAx : ∀ x a' W l o o', Ax x a' W → w.heap.size ≤ l → W.heap[l]? = some o → o.isCells = false → Ax x a' (W.putObj l o'))
    (hassign : ∀ (l : Nat) (pre : List α) (x : α) (W : World) (K : Act → World → Prop), I pre W → (∀ a' W', KeepsFrom w.heap.size W W' → KpV n₀ W W' → I pre W' → Ax x a' W' → K a' W') →
      assign.wpIn (Fence.wide.inRound l) (n - 1 - 1) Tryz.prog (Exit.then K (fun _ _ _ => False)) { tmps := (#[p].zip #[e1 x]).foldl (fun t (p, v) => t.setIfInBounds p v) a.tmps, defers := [] } W)
    (hbody : ∀ (l : Nat) (pre : List α) (x : α) (a' : Act) (W : World), w.heap.size ≤ l → I pre W → Ax x a' W → (pre ++ [x]) <+: zs → body.wpIn (Fence.wide.inRound l) (n - 1 - 1) Tryz.prog (LeftV w.heap.size n₀ I Ix (pre ++ [x]) W) a' W)
    (hdone : ∀ (D : Nat) (W : World), w.heap.size ≤ D → I zs W → W.heap[D]? = some (.deferred (some [])) → Q .normal { a with defers := { target := .collected D, args := #[] } :: a.defers } W)
    (hstop : ∀ (D : Nat) (c : Code) (pre : List α) (W : World), w.heap.size ≤ D → pre <+: zs → Ix c pre W → W.heap[D]? = some (.deferred (some [])) → c.wpIn Fence.wide n Tryz.prog Q { a with defers := { target := .collected D, args := #[] } :: a.defers } W) :
    (Code.rangeFunc g #[p] assign body).wpIn Fence.wide n Tryz.prog Q a w := by
  refine wpIn_rangeFunc fun fn hfn => ?_
  -- the loop's record and the block for deferred calls
  let R : LoopState → Option Code → Loop := fun st pe => { state := st, pending := pe, fn, tmps := a.tmps, params := #[p], assign, body, defers := w.heap.size }
  let V : World := (w.alloc (.deferred (some []))).alloc (.loop (R .ready none))
  have hVl : V.heap[w.heap.size + 1]? = some (.loop (R .ready none)) := by
    have := World.alloc_heap_new (w.alloc (.deferred (some []))) (.loop (R .ready none)); rwa [World.size_alloc] at this
  have hVd : V.heap[w.heap.size]? = some (.deferred (some [])) := (Below.heap_alloc _ _ _ (by simp)).trans (World.alloc_heap_new w _)
  have hVs : V.heap.size = w.heap.size + 2 := by simp [V]
  have hVb : Below w0.heap.size w0 V := hb0.trans ((((Below.refl _ w).alloc (Nat.le_refl _) _).alloc (by simp) _).mono hb0.size)
  refine ⟨w.heap.size + 1, [{ target := .collected w.heap.size, args := #[] }], V, { target := .fn (.func gf) lb, args := #[.func (.yield (w.heap.size + 1)) #[] #[]] }, V, gf,
    #[.func (.yield (w.heap.size + 1)) #[] #[]] ++ lb, V, run_enterLoop_outer _ _ _ _ _, ?_, fun _ _ => trivial, ?_, fun _ => hn, ?_⟩
  · simp only [resolve, hg]
    simp [go_sem]
  · simp [invoke, go_sem, eg]
  refine (hH (w.heap.size + 1)
    (fun pre W => I pre W ∧ W.heap[w.heap.size + 1]? = some (.loop (R .ready none)) ∧ W.heap[w.heap.size]? = some (.deferred (some [])))
    (fun pre W => ∃ c, Ix c pre W ∧ W.heap[w.heap.size + 1]? = some (.loop (R .done (some c))) ∧ W.heap[w.heap.size]? = some (.deferred (some [])))
    V hVb
    (fun s A B hs hb => ⟨hI.below hs.1 hb, (hb.block _ (Array.getElem?_eq_some_iff.1 hs.2.1).1).trans hs.2.1, (hb.block _ (Array.getElem?_eq_some_iff.1 hs.2.2).1).trans hs.2.2⟩)
    ?_ ⟨hI.alloc _ (hI.alloc _ h0), hVl, hVd⟩).mono ?_
  · -- one round
    rintro pre x W ⟨hi, hl, hd⟩ hlen
    refine ⟨fn, _, assign, body, run_yield (P := Tryz.prog) (args := #[e1 x]) hl rfl, roundIn_of_wpIn hfn (hassign _ pre x W _ hi ?_)⟩
    intro a' U hUk hUp hUi hUa
    have hl1 := hUk.same _ _ (by omega) hl rfl
    have hd1 := hUk.same _ _ (Nat.le_refl _) hd rfl
    have hlt := (Array.getElem?_eq_some_iff.1 hl1).1
    refine ⟨_, run_beginRound hl1 rfl, ?_⟩
    let Z : World := U.putObj (w.heap.size + 1) (.loop (R .busy none))
    have hl2 : Z.heap[w.heap.size + 1]? = some (.loop (R .busy none)) := World.putObj_heap_same hlt
    have hd2 : Z.heap[w.heap.size]? = some (.deferred (some [])) := (World.putObj_heap_other (by omega)).trans hd1
    have hZp : KpV n₀ U Z := KpV.putObj (by omega) hl1
    refine wpIn_mono (hbody _ pre x a' Z (by omega) (hI.putObj _ hUi (by omega) hl1 rfl) (hAx _ _ _ _ _ _ hUa (by omega) hl1 rfl) hlen) ?_
    intro e a3 W3 hp
    cases e with
    | normal =>
      obtain ⟨hk3, hp3, hi3⟩ := hp
      have hl3 := hk3.same _ _ (by omega) hl2 rfl
      have hd3 := hk3.same _ _ (Nat.le_refl _) hd2 rfl
      exact ⟨_, _, run_endRound none hl3, .inl ⟨rfl, ⟨hI.putObj _ hi3 (by omega) hl3 rfl, World.putObj_heap_same (Array.getElem?_eq_some_iff.1 hl3).1, (World.putObj_heap_other (by omega)).trans hd3⟩,
        hUp.trans (hZp.trans (hp3.trans (KpV.putObj (by omega) hl3)))⟩⟩
    | ret =>
      obtain ⟨hk3, hi3⟩ := hp
      have hl3 := hk3.same _ _ (by omega) hl2 rfl
      have hd3 := hk3.same _ _ (Nat.le_refl _) hd2 rfl
      exact ⟨_, _, run_endRound (some .ret) hl3, .inr ⟨rfl, .ret, (hIx _).putObj _ hi3 (by omega) hl3 rfl, World.putObj_heap_same (Array.getElem?_eq_some_iff.1 hl3).1, (World.putObj_heap_other (by omega)).trans hd3⟩⟩
    | exit id => exact hp.elim
    | goto t => exact hp.elim
    | panic ch => exact hp.elim
    | outgrown => exact hp.elim
  · -- behind the loop
    rintro e W2 ⟨⟨v, rfl⟩, ⟨hi, hl, hd⟩ | ⟨pre, hp, c, hi, hl, hd⟩⟩
    · exact ⟨none, _, run_endLoop (P := Tryz.prog) hl (by simp [R]), hdone _ _ (Nat.le_refl _) (hI.putObj _ hi (by omega) hl rfl) ((World.putObj_heap_other (by omega)).trans hd)⟩
    · exact ⟨some c, _, run_endLoop (P := Tryz.prog) hl (by simp [R]), hstop _ c pre _ (Nat.le_refl _) hp ((hIx c).putObj _ hi (by omega) hl rfl) ((World.putObj_heap_other (by omega)).trans hd)⟩
end Go.Proofs.YtjonhenllhnibaaGreatDoor
/- The contracts of the reference's Heights and Above: rows that grow. -/
namespace Go.Proofs.YtjonhenllhnibaaGreatDoor
open Go.RowKit

/-- The places, rising, of the first so many numbers whose height is more than a level. -/
def abL (k : List UInt8) (L : List Nat) (lev : Int) (j : Nat) : List Nat := (List.range j).filter fun i => decide (lev < (hL k (L.getD i 0) : Int))
theorem abL_zero (k : List UInt8) (L : List Nat) (lev : Int) : abL k L lev 0 = [] := rfl
theorem abL_yes {k : List UInt8} {L : List Nat} {lev : Int} {j : Nat} (h : lev < (hL k (L.getD j 0) : Int)) : abL k L lev (j + 1) = abL k L lev j ++ [j] := by
  simp only [abL, List.range_succ, List.filter_append, List.filter_cons, List.filter_nil]
  rw [if_pos (by simpa using h)]
theorem abL_no {k : List UInt8} {L : List Nat} {lev : Int} {j : Nat} (h : ¬ lev < (hL k (L.getD j 0) : Int)) : abL k L lev (j + 1) = abL k L lev j := by
  simp only [abL, List.range_succ, List.filter_append, List.filter_cons, List.filter_nil]
  rw [if_neg (by simpa using h), List.append_nil]
theorem abL_len (k : List UInt8) (L : List Nat) (lev : Int) (j : Nat) : (abL k L lev j).length ≤ j := by
  have := List.length_filter_le (fun i => decide (lev < (hL k (L.getD i 0) : Int))) (List.range j)
  rwa [List.length_range] at this

set_option maxRecDepth 100000 in
set_option maxHeartbeats 4000000 in
theorem vrheights_any (k : List UInt8) (A : Option Addr) (n c : Nat) (L : List Nat) (w : World) (hk : k.length ≤ 60000) (hA : VR vu w A L) (hl : L.length = n) (hx : ∀ x ∈ L, x < 18446744073709551616) (hn : n ≤ 65536) :
    Calls Tryz.prog 38 #[.string ⟨k.toArray⟩, .slice A n c] w fun e w' => ∃ g c', e = .returned (.slice (some ⟨g, 0, none⟩) n c') ∧ w'.ownsRow w.heap.size 3 1 (.slice (some ⟨g, 0, none⟩) n c') n ((hsL k L).map vi) ∧ Below w.heap.size w w' := by
  obtain ⟨ti, hti, hz0, hz1, hz2⟩ := info_parts infoVI
  have HH := Lib.hid (fun j W (hj : j < n) => by
    have := vrheight_any k (L.getD j 0) W hk (hx _ (by rw [List.getD, List.getElem?_eq_getElem (by omega)]; exact List.getElem_mem _))
    rwa [← hsL_at k L j (by omega)] at this)
  have HR := Lib.hid (fun j W (hj : j < n) (hb : Below w.heap.size w W) => (hA.later hb) j (by omega))
  have HTl : Hid ((hsL k L).length = n) := Lib.hid (by rw [hsL_len, hl])
  clear hA hx hl hk
  generalize hsL k L = T at *
  have HTS : Hid (∀ j, j < n → (T.take (j + 1)).map vi = (T.take j).map vi ++ [vi (T.getD j 0)]) := Lib.hid (fun j hj => by
    rw [List.take_add_one, List.map_append]
    have : j < T.length := by rw [HTl.out]; exact hj
    simp [List.getD, this])
  have HO : Hid ((w.alloc (.cells #[] 3)).ownsRow w.heap.size 3 1 (.slice (some ⟨w.heap.size, 0, none⟩) 0 0) 0 ((T.take 0).map vi)) := Lib.hid (own_nil (Blk.new w _ _) (Nat.le_refl _))
  have HB : Hid (Below w.heap.size w (w.alloc (.cells #[] 3))) := Lib.hid (ba (Below.refl _ _) _)
  go_enter Tryz.func38, Tryz.ntmps38
  go_upto_region 2 with fail
  generalize w.alloc (.cells #[] 3) = w1 at *
  go_wp2_with fail
  go_loopw [5, 11] (fun ov iv wr => ∃ (j g5 c5 : Nat), j ≤ n ∧ iv = .int .i64 (j : Int) ∧ ov = .slice (some ⟨g5, 0, none⟩) j c5 ∧ Hid (wr.ownsRow w.heap.size 3 1 (.slice (some ⟨g5, 0, none⟩) j c5) j ((T.take j).map vi)) ∧ Hid (Below w.heap.size w wr)) (fun _ i _ => n - (intOf i).toNat)
  case atStart => exact ⟨0, w.heap.size, 0, Nat.zero_le _, rfl, rfl, HO, HB⟩
  case round =>
    clear HB HO
    obtain ⟨j, g5, c5, hj, rfl, rfl, HO, HB⟩ := hrel
    by_cases hlt : j < n
    · obtain ⟨g, off, rfl, c0⟩ := HR.out j wr hlt HB.out
      have HHj := Lib.hid (fun W => HH.out j W hlt)
      have HTj := Lib.hid (HTS.out j hlt)
      generalize T.getD j 0 = x at HHj HTj
      generalize L.getD j 0 = y at c0 HHj
      have i0 : (0 : Int) ≤ (j : Int) := by omega
      have i1 : (j : Int) < (n : Int) := by omega
      go_wp2_with fail
      refine (HHj.out _).mono ?_
      rintro e2 w2 ⟨rfl, hb2⟩
      have W2 := Lib.hid (own_later HO.out hb2)
      have B2 := Lib.hid (bt HB.out hb2)
      clear hb2 HO HB
      have hownA := W2.out.alloc (.cells #[vi x] 3)
      have hnews := World.news_of_block (heap_alloc_new w2 (.cells #[vi x] 3))
      have B3 := Lib.hid (ba B2.out (.cells #[vi x] 3))
      go_wp2_with (at_builtin; refine wpList_append_own _ rfl _ _ 36 rfl w.heap.size 3 ti _ 1 8 Tryz.underlying36 hti hz0 hz1 hz2 rfl (by decide) _ _ _ rfl hownA ⟨w2.heap.size, 0, none⟩ 1 1 [vi x] rfl rfl hnews (by simp [Value.oneCell']) (by unfold maxLen; omega) (by omega) (by have := B3.out.size; exact this) ?_; intro v4 w5 hown5 hgrow5 _; obtain ⟨g6, c6, rfl⟩ := ownsRow_succ hown5)
      have B5 := Lib.hid (B3.out.grown hgrow5 B3.out.size (fun k e => by have := (hownA.lt k e).1; omega))
      rw [← HTj.out] at hown5
      have W5 := Lib.hid hown5
      clear hown5 hgrow5 hnews hownA
      go_wp2_with fail
      exact ⟨⟨j + 1, g6, c6, by omega, by go_num, rfl, W5, B5⟩, by simp [intOf]; omega⟩
    · obtain rfl : j = n := by omega
      have HTA : Hid (T.take j = T) := Lib.hid (by rw [← HTl.out, List.take_length])
      rw [HTA.out] at HO
      go_wp2
      go_ret
      exact ⟨_, _, rfl, HO.out, HB.out⟩

end Go.Proofs.YtjonhenllhnibaaGreatDoor
/- The iterator higher: the places that it hands on. -/
namespace Go.Proofs.YtjonhenllhnibaaGreatDoor
open Go.RowKit Go.Shelf
attribute [local go_sem] Oper.semAt_some

theorem abL_step (k : List UInt8) (L : List Nat) (lev : Int) (j : Nat) : abL k L lev j <+: abL k L lev (j + 1) := by
  by_cases h : lev < (hL k (L.getD j 0) : Int)
  · rw [abL_yes h]; exact List.prefix_append _ _
  · rw [abL_no h]; exact List.prefix_refl _
theorem abL_pre (k : List UInt8) (L : List Nat) (lev : Int) (j d : Nat) : abL k L lev j <+: abL k L lev (j + d) := by
  induction d with
  | zero => exact List.prefix_refl _
  | succ d ih => exact ih.trans (abL_step _ _ _ _)
theorem abL_pre' (k : List UInt8) (L : List Nat) (lev : Int) (j m : Nat) (h : j ≤ m) : abL k L lev j <+: abL k L lev m := by
  have := abL_pre k L lev j (m - j)
  rwa [Nat.add_sub_cancel' h] at this

theorem vtwo {e : Ending} {P Q : Prop} (h : (e = .returned (.bool true) ∧ P) ∨ (e = .returned (.bool false) ∧ Q)) : ∃ b : Bool, e = .returned (.bool b) ∧ Hid ((b = true → P) ∧ (b = false → Q)) := by
  rcases h with ⟨rfl, h⟩ | ⟨rfl, h⟩
  · exact ⟨true, rfl, Lib.hid ⟨fun _ => h, fun e => by cases e⟩⟩
  · exact ⟨false, rfl, Lib.hid ⟨fun e => (by cases e), fun _ => h⟩⟩

end Go.Proofs.YtjonhenllhnibaaGreatDoor
/- slices.AppendSeq and slices.Collect over a function that hands ints on; the contracts of Above. -/
namespace Go.Proofs.YtjonhenllhnibaaGreatDoor
open Go.RowKit Go.Shelf
attribute [local go_sem] Oper.semAt_some

theorem vown_kept {W W' : World} {base : Nat} {e : TypeId} {size : Nat} {v : Value} {n : Nat} {xs : List Value} (h : W.ownsRow base e size v n xs) (hk : ∀ k, v.ownBlock = some k → W'.heap[k]? = W.heap[k]?) : W'.ownsRow base e size v n xs := by
  refine ⟨h.1, ?_⟩
  rcases h.2 with h2 | ⟨g, cap, cur, hv, hg, hh, r⟩
  · exact Or.inl h2
  · exact Or.inr ⟨g, cap, cur, hv, hg, (hk g (by rw [hv]; rfl)).trans hh, r⟩
theorem vown_blk {W : World} {base : Nat} {e : TypeId} {size : Nat} {v : Value} {n : Nat} {xs : List Value} (h : W.ownsRow base e size v n xs) (k : Nat) (hk : v.ownBlock = some k) : base ≤ k ∧ ∃ cs, Blk W k e cs := by
  rcases h.2 with ⟨h2, _⟩ | ⟨g, cap, cur, hv, hg, hh, r⟩
  · rw [h2] at hk; cases hk
  · rw [hv] at hk
    cases hk
    exact ⟨hg, cur, hh⟩
theorem vown_ne {w : World} {g : Nat} {t : TypeId} {cs : Array Value} {base : Nat} {e : TypeId} {size n : Nat} {v : Value} {xs : List Value} (h : w.ownsRow base e size v n xs) (hg : Blk w g t cs) (hne : e ≠ t) : v.ownBlock ≠ some g := by
  intro he
  obtain ⟨_, cs2, hb⟩ := vown_blk h g he
  have h9 : some (Obj.cells cs t (0, 0)) = some (Obj.cells cs2 e (0, 0)) := (show w.heap[g]? = _ from hg).symm.trans hb
  injection h9 with h9
  injection h9 with _ h9
  exact hne h9.symm
theorem vkeeps_grown {B : Nat} {W W' : World} {row : Option Nat} (h : W.grownBy W' row) (hr : ∀ k, row = some k → ∃ t cs, Blk W k t cs) : KeepsFrom B W W' :=
  (show KeepsOthers W W' from ⟨h.size, fun k o hk hc => (h.block k (Array.getElem?_eq_some_iff.1 hk).1 (fun e => by
    obtain ⟨t, cs, hb⟩ := hr k e.symm
    rw [show W.heap[k]? = _ from hb] at hk
    cases hk
    cases hc)).trans hk⟩).from _
theorem vblk_putObj {W : World} {g D : Nat} {t : TypeId} {cs : Array Value} {o o' : Obj} (hb : Blk W g t cs) (hD : W.heap[D]? = some o) (ho : o.isCells = false) : Blk (W.putObj D o') g t cs :=
  (World.putObj_heap_other (fun e => by
    subst e
    rw [show W.heap[g]? = _ from hb] at hD
    cases hD
    cases ho)).trans hb

/-- Between two rounds. -/
def ApI (w : World) (pre : List Nat) (W : World) : Prop :=
  ∃ v, Blk W w.heap.size 36 #[v] ∧ W.ownsRow w.heap.size 3 1 v pre.length (pre.map vi) ∧ Below w.heap.size w W
theorem ApI_kept (w : World) {B : Nat} (hB : w.heap.size ≤ B) : KeptV B (ApI w) := by
  rintro s W W' row ⟨v, h2, h3, h6⟩ hg hr
  refine ⟨v, hr.blk hg h2, vown_kept h3 (fun k hk => ?_), h6.grown hg h6.size (fun k e => Nat.le_trans hB (hr k e).1)⟩
  obtain ⟨_, cs, hb⟩ := vown_blk h3 k hk
  exact (hr.blk hg hb).trans hb.symm
/-- A round's end. -/
theorem ApI_more {w : World} {pre : List Nat} {x : Nat} {V w6 : World} {v v6 : Value} (h2 : Blk V w.heap.size 36 #[v]) (h3 : V.ownsRow w.heap.size 3 1 v pre.length (pre.map vi)) (h4 : Below w.heap.size w V)
    (g1 : w6.ownsRow w.heap.size 3 1 v6 (pre.length + 1) (pre.map vi ++ [vi x])) (g2 : (V.alloc (.cells #[vi x] 3)).grownBy w6 v.ownBlock) :
    (w6.cell? ⟨w.heap.size, 0, none⟩ = some v ∧ w6.frozen? ⟨w.heap.size, 0, none⟩ = false) ∧ (KeepsFrom w.heap.size V (w6.setCell ⟨w.heap.size, 0, none⟩ v6) ∧ KpV w.heap.size V (w6.setCell ⟨w.heap.size, 0, none⟩ v6) ∧ ApI w (pre ++ [x]) (w6.setCell ⟨w.heap.size, 0, none⟩ v6)) := by
  have hbb := ba (Below.refl V.heap.size V) (.cells #[vi x] 3)
  have hown := own_later h3 hbb
  have hrow : ∀ k, v.ownBlock = some k → w.heap.size ≤ k ∧ ∃ cs, Blk (V.alloc (.cells #[vi x] 3)) k 3 cs := fun k hk => vown_blk hown k hk
  have j2 : Blk w6 w.heap.size 36 #[v] := (g2.block _ (Nat.lt_of_lt_of_le h2.lt hbb.size) (fun e => vown_ne hown (h2.below hbb) (by decide) e.symm)).trans (h2.below hbb)
  have hk6 : Below w.heap.size V w6 := (hbb.mono h4.size).grown g2 (Nat.le_trans h4.size hbb.size) (fun k e => (hrow k e).1)
  have h6 : Below w.heap.size w w6 := h4.trans hk6
  have hne6 : ∀ k, v6.ownBlock = some k → k ≠ w.heap.size := fun k hk e => vown_ne g1 j2 (by decide) (by rw [hk, e])
  refine ⟨⟨j2.cell 0, j2.frozen 0⟩, ?_, ?_, v6, j2.set_ 0 v6, ?_, bs h6 (Nat.le_refl _) _⟩
  · exact (((KeepsOthers.alloc _ _).from _).trans (vkeeps_grown g2 (fun k e => ⟨_, (hrow k e).2⟩))).trans ((KeepsOthers.setCell _ _ _).from _)
  · exact hk6.setCell (p := ⟨w.heap.size, 0, none⟩) (Nat.le_refl _) v6
  · rw [List.length_append, List.map_append]
    exact vown_kept g1 (fun k hk => Below.heap_setCell w6 ⟨w.heap.size, 0, none⟩ v6 k (hne6 k hk))

end Go.Proofs.YtjonhenllhnibaaGreatDoor
/- The condition of stage 15's rows: what the library's table holds when the call begins; and a start that meets it. -/
namespace Go.Proofs.YtjonhenllhnibaaGreatDoor
open Go.ChangeShapes Go.WideShapes Go.ChangeAt Go.RowKit Go.Joins Go.Deep

/-- What the rows list. -/
def vlaid : List (String × DataW Unit) := [("math/bits.deBruijn64tab", Rows.laid_math_bits_deBruijn64tab)]
theorem vgTab : Tryz.prog.globalNamed "math/bits.deBruijn64tab" = some 0 := by kernel_rfl
theorem vtTab : (Tryz.prog.globals[0]?).map (·.type) = some 161 := by kernel_rfl
theorem vlaid_list : (Rows.laid_math_bits_deBruijn64tab : DataW Unit) = .agg (Lib.deBruijn64tab.map fun n : Nat => .lit (.int .u8 (n : Int))) := rfl
set_option maxRecDepth 100000 in
/-- The door's own heap meets the condition. -/
theorem vdoor_met (os : Os) (args : Array Value) : laidMetH Tryz.prog vlaid ((World.doorLaid Tryz.prog 14 os).forCall (fun _ _ => 0) ⟨#[], args, []⟩).memory :=
  laidMetH_of_parts3 (fuel := 8) (laidMet_of_run' 8 (by kernel_rfl) (by kernel_rfl)) (by kernel_rfl) (by kernel_rfl)
/-- What the condition gives the walks. -/
theorem vtab_of_laid {W : World} (h : laidMetH Tryz.prog vlaid W) : VTab W := by
  rw [MakeChecks.laidMetH_plain _ _ _ (by kernel_rfl)] at h
  obtain ⟨ps, ⟨g0, t0, cs0, f0, p0, q0, hg0, ht0, hv0, hd0, _⟩, _, _⟩ := h
  obtain rfl := Option.some.inj (vgTab.symm.trans hg0)
  obtain rfl := Option.some.inj (vtTab.symm.trans ht0)
  obtain ⟨xs, m1, rfl, hx1, hlen, hn, hel⟩ := DataW.trod_array Tryz.underlying161 hd0
  have c1 : Tryz.prog.cellsOf 5 = 1 := by kernel_rfl
  simp only [Prod.mk.injEq] at hx1
  have hx := hx1.1
  rw [vlaid_list] at hx
  injection hx with hx
  intro j hj
  have hej := hel j hj
  rw [c1, Nat.mul_one, List.getElem?_eq_getElem (show j < xs.length by omega)] at hej
  obtain ⟨k, e1, e2, _⟩ := DataW.trod_int Tryz.underlying5 hej
  have hk : k = (Lib.deBruijn64tab.getD j 0 : Nat) := by
    have h1 : (Lib.deBruijn64tab.map fun n : Nat => (DataW.lit (.int .u8 (n : Int)) : DataW Unit))[j]? = (xs.map (·.1))[j]? := by rw [hx]
    have h2 : j < Lib.deBruijn64tab.length := hj
    rw [List.getElem?_map, List.getElem?_map, List.getElem?_eq_getElem h2, List.getElem?_eq_getElem (show j < xs.length by omega), e2] at h1
    simp only [Option.map_some, Option.some.injEq, DataW.lit.injEq, Lit.int.injEq, true_and] at h1
    rw [← h1]
    simp [List.getD, h2]
  have hc := World.var?_cell hg0 hv0 j
  rw [hc, ← hk]
  have h3 : (cs0.toList.drop j)[0]? = some (.int .u8 k) := by
    have : ((cs0.toList.drop j).take 1)[0]? = some (.int .u8 k) := by rw [e1]; rfl
    rwa [List.getElem?_take, if_pos (by omega)] at this
  rw [List.getElem?_drop, Nat.add_zero, Array.getElem?_toList] at h3
  exact h3
end Go.Proofs.YtjonhenllhnibaaGreatDoor
