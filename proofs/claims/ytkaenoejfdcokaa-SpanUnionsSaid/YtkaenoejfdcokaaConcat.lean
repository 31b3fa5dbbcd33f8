/- slices.Grow of the nil slice, and slices.Concat of two rows of spans. -/
import Derived.Test.YtkaenoejfdcokaaUnionN
import Derived.Test.YtkaenoejfdcokaaClone
import Derived.Lib.AppendZerosOnto
namespace Go.Proofs.Ytkaenoejfdcokaa
open Go.RowKit Go.Shelf

set_option maxRecDepth 100000 in
set_option maxHeartbeats 2000000 in
theorem grow_nil (n : Nat) (h1 : 1 ≤ n) (h2 : n ≤ 4096) (w : World) :
    Calls Try.prog 41 #[.slice none 0 0, .int .i64 n] w (RowPost w []) := by
  obtain ⟨i1, hi, hz0, hz1, hz2⟩ := info_parts info24
  obtain ⟨G, hG⟩ : ∃ G, G = grownCap w n 0 24 := ⟨_, rfl⟩
  obtain ⟨Z, hZ⟩ : ∃ Z, Z = (#[] ++ Builtin.zeroCells (Value.agg #[.int .u64 0, .int .u64 0]).cells n ++ Builtin.zeroCells (Value.agg #[.int .u64 0, .int .u64 0]).cells (G - n)) := ⟨_, rfl⟩
  have hrz : ∀ ty, (Builtin.append_ #[34, 3] ty #[.slice none 0 0, .int .i64 (n : Int)]).run Try.prog w = .ok (.slice (some ⟨w.heap.size, 0, none⟩) n G) (w.drew.alloc (.cells Z 24)) := fun ty => by
    have h := Lib.run_append_grow_zeros w 34 3 ty 24 i1 _ .i64 .i64 Try.underlying34 Try.underlying3 hi hz0 none 0 0 [] (run_firstCells_none _ _ _ _ _) n (by omega) (by omega) (by omega) (by omega) (by rw [hz2]; omega) (growslice_fits (by omega) (by rw [hz2]; omega))
    rw [Nat.zero_add, ← hG] at h
    rw [h, hZ]
  have hGn : n ≤ G := by rw [hG]; exact grownCap_ge w n 0 _
  have hGm : G ≤ maxLen := by rw [hG]; exact grownCap_le_maxLen w n 0 _ (by unfold maxLen; omega)
  have hZs : Z.size = G * 2 := by
    rw [hZ, Array.size_append, Array.size_append, size_zeroCells, size_zeroCells]
    show 0 + n * 2 + (G - n) * 2 = _
    omega
  have HM := Lib.hid hGm
  unfold maxLen at hGm
  clear hG hZ
  go_enter Try.func41, Try.ntmps41
  go_wp2_with (at_builtin; refine Lib.wpList_append_run _ rfl _ _ _ _ rfl _ _ rfl rfl _ _ (hrz _) ?_)
  go_ret
  refine ⟨_, rfl, ⟨rfl, .inr ⟨w.heap.size, G, Z, rfl, Nat.le_refl _, ?_, Nat.zero_le _, HM.out, hZs, rfl⟩⟩, ?_⟩
  · exact World.alloc_heap_new w.drew _
  · exact ((Below.refl _ _).drew).alloc (Nat.le_refl _) _

/-- How long the first rows are together. -/
def szAt (p q : Nat) (k : Nat) : Int := if k = 0 then 0 else if k = 1 then p else p + q
def rowAt (L M : List (Int × Int)) (k : Nat) : List (Int × Int) := if k = 0 then [] else if k = 1 then L else L ++ M

theorem rowAt_len0 (L M : List (Int × Int)) : (rowAt L M 0).length = 0 := rfl
theorem rowAt_len1 (L M : List (Int × Int)) : (rowAt L M 1).length = L.length := rfl
theorem grow_sum (p q : Nat) (h1 : 1 ≤ p + q) (h2 : p + q ≤ 4096) (w : World) :
    Calls Try.prog 41 #[.slice none 0 0, .int .i64 ((p : Int) + (q : Int))] w (RowPost w []) := by
  have := grow_nil (p + q) h1 h2 w
  rw [Int.natCast_add] at this
  exact this

set_option maxRecDepth 100000 in
set_option maxHeartbeats 4000000 in
theorem concat_any (b c : Nat) (a1 a2 : Addr) (c1 c2 : Nat) (L M : List (Int × Int)) (hl : L.length ≤ 64) (hm : M.length ≤ 64) (hlm : 1 ≤ L.length + M.length) (w : World)
    (v1 : w.cell? ⟨b, 0, none⟩ = some (.slice (some a1) L.length c1)) (v2 : w.cell? ⟨b, 1, none⟩ = some (.slice (some a2) M.length c2))
    (h1 : ∀ j u, (rowCells L)[j]? = some u → w.cell? (a1.add j) = some u) (h2 : ∀ j u, (rowCells M)[j]? = some u → w.cell? (a2.add j) = some u) :
    Calls Try.prog 27 #[.slice (some ⟨b, 0, none⟩) 2 c] w (RowPost w (L ++ M)) := by
  obtain ⟨i1, hi, hz0, hz1, hz2⟩ := info_parts info24
  have H1 : Hid _ := h1
  have H2 : Hid _ := h2
  clear h1 h2
  have V1 := Lib.hid v1
  have V2 := Lib.hid v2
  go_enter Try.func27, Try.ntmps27
  go_wp2
  go_loop [3, 11] (fun sz i => ∃ k : Nat, k ≤ 2 ∧ i = .int .i64 k ∧ sz = .int .i64 (szAt L.length M.length k)) (fun _ i => 2 - (intOf i).toNat)
  case atStart => exact ⟨0, by omega, rfl, rfl⟩
  case round =>
    obtain ⟨k, hk, rfl, rfl⟩ := hrel
    rcases (show k = 0 ∨ k = 1 ∨ k = 2 by omega) with rfl | rfl | rfl
    · rw [show szAt L.length M.length 0 = 0 from rfl]
      go_wp2
      exact ⟨⟨1, by omega, rfl, rfl⟩, by simp [intOf]⟩
    · rw [show szAt L.length M.length 1 = L.length from rfl]
      go_wp2
      exact ⟨⟨2, by omega, rfl, rfl⟩, by simp [intOf]⟩
    · rw [show szAt L.length M.length 2 = L.length + M.length from rfl]
      go_wp2_with fail
      refine (grow_sum L.length M.length hlm (by omega) _).mono ?_
      rintro e w1 ⟨v0, rfl, hown0, hb0⟩
      go_wp2_with fail
      go_loopw [6, 27] (fun nv i wr => ∃ k : Nat, k ≤ 2 ∧ i = .int .i64 k ∧ wr.ownsRow w.heap.size 24 2 nv (rowAt L M k).length (rowCells (rowAt L M k)) ∧ Below w.heap.size w wr) (fun _ i _ => 2 - (intOf i).toNat)
      case atStart => exact ⟨0, by omega, rfl, hown0, hb0⟩
      case round =>
        obtain ⟨k, hk, rfl, hown, hb⟩ := hrel
        have v1' := cell_later hb V1.out
        have v2' := cell_later hb V2.out
        obtain ⟨na, nn, nc, rfl⟩ := ownsRow_slice hown
        rcases (show k = 0 ∨ k = 1 ∨ k = 2 by omega) with rfl | rfl | rfl
        · go_wp2_with (at_builtin; refine wpList_append_own _ rfl (.tmp 31) (.tmp 32) 34 rfl w.heap.size 24 i1 (.agg #[.int .u64 0, .int .u64 0]) 2 16 Try.underlying34 hi hz0 hz1 hz2 rfl (by decide) _ _ _ rfl hown a1 L.length c1 (rowCells L) rfl (rowCells_length L) (fun j u h => cell_later hb (H1.out j u h)) (rowCells_one L) (by simp only [rowAt_len0]; unfold maxLen; omega) (by simp only [rowAt_len0]; omega) hb.size ?_; intro v' w' hown' hgrow' _)
          exact ⟨⟨1, by omega, rfl, by simpa [rowAt, rowCells] using hown', hb.grown hgrow' hb.size (ownsRow_from hown)⟩, by simp [intOf]⟩
        · go_wp2_with (at_builtin; refine wpList_append_own _ rfl (.tmp 31) (.tmp 32) 34 rfl w.heap.size 24 i1 (.agg #[.int .u64 0, .int .u64 0]) 2 16 Try.underlying34 hi hz0 hz1 hz2 rfl (by decide) _ _ _ rfl hown a2 M.length c2 (rowCells M) rfl (rowCells_length M) (fun j u h => cell_later hb (H2.out j u h)) (rowCells_one M) (by simp only [rowAt_len1]; unfold maxLen; omega) (by simp only [rowAt_len1]; omega) hb.size ?_; intro v' w' hown' hgrow' _)
          exact ⟨⟨2, by omega, rfl, by simpa [rowAt, rowCells] using hown', hb.grown hgrow' hb.size (ownsRow_from hown)⟩, by simp [intOf]⟩
        · go_wp2
          go_ret
          exact ⟨_, rfl, hown, hb⟩
end Go.Proofs.Ytkaenoejfdcokaa
