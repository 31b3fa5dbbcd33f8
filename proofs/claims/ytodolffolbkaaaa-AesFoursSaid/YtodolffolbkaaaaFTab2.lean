/- The powers of 3, and of its inverse: the tables; the boxes, so many of them set. -/
import Derived.Test.YtodolffolbkaaaaFRefM
namespace Go.Proofs.Ytodolffolbkaaaa
def powT : List Nat := [1, 3, 5, 15, 17, 51, 85, 255, 26, 46, 114, 150, 161, 248, 19, 53, 95, 225, 56, 72, 216, 115, 149, 164, 247, 2, 6, 10, 30, 34, 102, 170, 229, 52, 92, 228, 55, 89, 235, 38, 106, 190, 217, 112, 144, 171, 230, 49, 83, 245, 4, 12, 20, 60, 68, 204, 79, 209, 104, 184, 211, 110, 178, 205, 76, 212, 103, 169, 224, 59, 77, 215, 98, 166, 241, 8, 24, 40, 120, 136, 131, 158, 185, 208, 107, 189, 220, 127, 129, 152, 179, 206, 73, 219, 118, 154, 181, 196, 87, 249, 16, 48, 80, 240, 11, 29, 39, 105, 187, 214, 97, 163, 254, 25, 43, 125, 135, 146, 173, 236, 47, 113, 147, 174, 233, 32, 96, 160, 251, 22, 58, 78, 210, 109, 183, 194, 93, 231, 50, 86, 250, 21, 63, 65, 195, 94, 226, 61, 71, 201, 64, 192, 91, 237, 44, 116, 156, 191, 218, 117, 159, 186, 213, 100, 172, 239, 42, 126, 130, 157, 188, 223, 122, 142, 137, 128, 155, 182, 193, 88, 232, 35, 101, 175, 234, 37, 111, 177, 200, 67, 197, 84, 252, 31, 33, 99, 165, 244, 7, 9, 27, 45, 119, 153, 176, 203, 70, 202, 69, 207, 74, 222, 121, 139, 134, 145, 168, 227, 62, 66, 198, 81, 243, 14, 18, 54, 90, 238, 41, 123, 141, 140, 143, 138, 133, 148, 167, 242, 13, 23, 57, 75, 221, 124, 132, 151, 162, 253, 28, 36, 108, 180, 199, 82, 246, 1]
def ipowT : List Nat := [1, 246, 82, 199, 180, 108, 36, 28, 253, 162, 151, 132, 124, 221, 75, 57, 23, 13, 242, 167, 148, 133, 138, 143, 140, 141, 123, 41, 238, 90, 54, 18, 14, 243, 81, 198, 66, 62, 227, 168, 145, 134, 139, 121, 222, 74, 207, 69, 202, 70, 203, 176, 153, 119, 45, 27, 9, 7, 244, 165, 99, 33, 31, 252, 84, 197, 67, 200, 177, 111, 37, 234, 175, 101, 35, 232, 88, 193, 182, 155, 128, 137, 142, 122, 223, 188, 157, 130, 126, 42, 239, 172, 100, 213, 186, 159, 117, 218, 191, 156, 116, 44, 237, 91, 192, 64, 201, 71, 61, 226, 94, 195, 65, 63, 21, 250, 86, 50, 231, 93, 194, 183, 109, 210, 78, 58, 22, 251, 160, 96, 32, 233, 174, 147, 113, 47, 236, 173, 146, 135, 125, 43, 25, 254, 163, 97, 214, 187, 105, 39, 29, 11, 240, 80, 48, 16, 249, 87, 196, 181, 154, 118, 219, 73, 206, 179, 152, 129, 127, 220, 189, 107, 208, 185, 158, 131, 136, 120, 40, 24, 8, 241, 166, 98, 215, 77, 59, 224, 169, 103, 212, 76, 205, 178, 110, 211, 184, 104, 209, 79, 204, 68, 60, 20, 12, 4, 245, 83, 49, 230, 171, 144, 112, 217, 190, 106, 38, 235, 89, 55, 228, 92, 52, 229, 170, 102, 34, 30, 10, 6, 2, 247, 164, 149, 115, 216, 72, 56, 225, 95, 53, 19, 248, 161, 150, 114, 46, 26, 255, 85, 51, 17, 15, 5, 3, 1]
def P3 (k : Nat) : Nat := powT.getD k 0
def I3 (k : Nat) : Nat := ipowT.getD k 0
theorem pow_all : ∀ k, k < 255 → cm (P3 k) 3 = P3 (k + 1) ∧ cm (I3 k) 246 = I3 (k + 1) ∧ boxI (I3 k) = box (P3 k) ∧ P3 k < 256 ∧ I3 k < 256 ∧ P3 k ≠ 0 ∧ powT.idxOf (P3 k) = k := by decide +kernel
theorem pow_lt (k : Nat) (h : k < 256) : P3 k < 256 ∧ I3 k < 256 := by
  have key : ∀ k, k < 256 → P3 k < 256 ∧ I3 k < 256 := by decide +kernel
  exact key k h
theorem idx_all : ∀ x, x < 256 → x = 0 ∨ (powT.idxOf x < 255 ∧ P3 (powT.idxOf x) = x) := by decide +kernel
theorem inv3 : inv 3 = 246 := by decide +kernel

/-- A byte's cell. -/
def bv (x : Nat) : Value := .int .u8 (x : Int)
/-- The box at a place, if it is set. -/
def boxAt (k x : Nat) : Nat := if x = 0 ∨ powT.idxOf x < k then box x else 0
def boxRow (k : Nat) : Array Value := ((List.range 256).map fun x => bv (boxAt k x)).toArray
theorem boxRow_size (k : Nat) : (boxRow k).size = 256 := by simp [boxRow]
theorem boxRow_at (k x : Nat) (h : x < 256) : (boxRow k)[x]? = some (bv (boxAt k x)) := by simp [boxRow, h]
theorem boxRow_set (k : Nat) (h : k < 255) : (boxRow k).setIfInBounds (P3 k) (bv (box (P3 k))) = boxRow (k + 1) := by
  obtain ⟨-, -, -, hlt, -, h0, hix⟩ := pow_all k h
  apply Array.ext
  · rw [Array.size_setIfInBounds, boxRow_size, boxRow_size]
  · intro x h1 h2
    have hx : x < 256 := by rw [boxRow_size] at h2; exact h2
    rw [Array.getElem_setIfInBounds (by rw [boxRow_size]; exact hx)]
    have e1 : (boxRow (k + 1))[x]'h2 = bv (boxAt (k + 1) x) := by have := boxRow_at (k + 1) x hx; rw [Array.getElem?_eq_getElem h2] at this; exact Option.some.inj this
    have h1' : x < (boxRow k).size := by rw [boxRow_size]; exact hx
    have e0 : (boxRow k)[x]'h1' = bv (boxAt k x) := by have := boxRow_at k x hx; rw [Array.getElem?_eq_getElem h1'] at this; exact Option.some.inj this
    rw [e1, e0]
    by_cases e : P3 k = x
    · rw [if_pos e, ← e, boxAt, if_pos (Or.inr (by omega))]
    · rw [if_neg e]
      have : boxAt k x = boxAt (k + 1) x := by
        unfold boxAt
        by_cases hz : x = 0
        · rw [if_pos (Or.inl hz), if_pos (Or.inl hz)]
        · have hne : powT.idxOf x ≠ k := by
            intro hk
            rcases idx_all x hx with h' | h'
            · exact hz h'
            · rw [hk] at h'; exact e h'.2
          by_cases hl : powT.idxOf x < k
          · rw [if_pos (Or.inr hl), if_pos (Or.inr (by omega))]
          · rw [if_neg (by omega), if_neg (by omega)]
      rw [this]
theorem boxRow_all : boxRow 255 = (boxT.map bv).toArray := by
  have h : ∀ x, x < 256 → boxAt 255 x = box x := fun x hx => by
    unfold boxAt
    rcases idx_all x hx with h' | h'
    · rw [if_pos (Or.inl h')]
    · rw [if_pos (Or.inr h'.1)]
  have e : (List.range 256).map (fun x => bv (boxAt 255 x)) = (List.range 256).map (fun x => bv (box x)) := List.map_congr_left fun x hx => by rw [h x (List.mem_range.1 hx)]
  have e2 : (List.range 256).map box = boxT := by decide +kernel
  unfold boxRow
  rw [e, ← e2, List.map_map]
  rfl
theorem boxRow_zero : boxRow 0 = ((List.replicate 256 0).map bv).toArray.setIfInBounds 0 (bv 99) := by
  have e : (List.range 256).map (boxAt 0) = (List.replicate 256 0).set 0 99 := by decide +kernel
  unfold boxRow
  rw [show (List.range 256).map (fun x => bv (boxAt 0 x)) = ((List.range 256).map (boxAt 0)).map bv by rw [List.map_map]; rfl, e]
  rw [List.setIfInBounds_toArray, List.map_set]
end Go.Proofs.Ytodolffolbkaaaa
