/- Keys fitted, tags and chains, in plain lists. -/
import Derived.Test.YtilcondnpoinkaaHSumR
namespace Go.Proofs.Ytilcondnpoinkaa

theorem sumL_len (s : List UInt8) : (sumL s).length = 32 := by rw [sumL, bytesW_len, sumN_len]
/-- A key, or its sum if it is too long. -/
def headL (key : List UInt8) : List UInt8 := if key.length ≤ 64 then key else sumL key
theorem headL_len (key : List UInt8) : (headL key).length ≤ 64 := by
  unfold headL
  split
  · assumption
  · rw [sumL_len]; omega
/-- A key fitted. -/
def fitL (key : List UInt8) : List UInt8 := headL key ++ List.replicate (64 - (headL key).length) 0
theorem fitL_len (key : List UInt8) : (fitL key).length = 64 := by
  have := headL_len key
  simp [fitL]; omega
def withL (k : List UInt8) (c : UInt8) : List UInt8 := k.map fun b => b ^^^ c
theorem withL_len (k : List UInt8) (c : UInt8) : (withL k c).length = k.length := by simp [withL]
def innL (key : List UInt8) : List UInt8 := withL (fitL key) 54
def outL (key : List UInt8) : List UInt8 := withL (fitL key) 92
theorem innL_len (key : List UInt8) : (innL key).length = 64 := by rw [innL, withL_len, fitL_len]
theorem outL_len (key : List UInt8) : (outL key).length = 64 := by rw [outL, withL_len, fitL_len]
/-- A text's tag, by an inner and an outer key. -/
def tagK (i o s : List UInt8) : List UInt8 := sumL (o ++ sumL (i ++ s))
def tagL (key s : List UInt8) : List UInt8 := tagK (innL key) (outL key) s
theorem tagK_len (i o s : List UInt8) : (tagK i o s).length = 32 := sumL_len _
theorem tagL_len (key s : List UInt8) : (tagL key s).length = 32 := sumL_len _
def chainK (i o : List UInt8) : List UInt8 → List (List UInt8) → List (List UInt8)
  | _, [] => []
  | first, s :: l => tagK i o (first ++ s) :: chainK i o (tagK i o (first ++ s)) l
def chainL (key first : List UInt8) (l : List (List UInt8)) : List (List UInt8) := chainK (innL key) (outL key) first l
/-- A key with a byte 0 behind it. -/
theorem fitL_zero (key : List UInt8) (h : key.length ≤ 63) : fitL (key ++ [0]) = fitL key := by
  have h1 : headL (key ++ [0]) = key ++ [0] := by unfold headL; rw [if_pos (by simp; omega)]
  have h2 : headL key = key := by unfold headL; rw [if_pos (by omega)]
  unfold fitL
  rw [h1, h2, List.append_assoc]
  congr 1
  obtain ⟨n, hn⟩ : ∃ n, 64 - key.length = n + 1 := ⟨63 - key.length, by omega⟩
  have h3 : 64 - (key ++ [0]).length = n := by simp; omega
  rw [hn, h3, List.replicate_succ]
  rfl
theorem tagL_zero (key s : List UInt8) (h : key.length ≤ 63) : tagL (key ++ [0]) s = tagL key s := by
  unfold tagL innL outL
  rw [fitL_zero key h]
end Go.Proofs.Ytilcondnpoinkaa
