/- The contracts of steps and of a grid's encrypted. -/
import Derived.Test.YtodolffolbkaaaaASteps
import Derived.Test.YtodolffolbkaaaaAGKey
namespace Go.Proofs.Ytodolffolbkaaaa
open Go.RowKit

/-- What a step does, by its function's number. -/
def semF (K : List UInt8) (f : Nat) (s : List UInt8) : List UInt8 :=
  if f = 57 then keyG s K else if f = 29 then boxG s else if f = 30 then turnG s else mixG s
theorem semF_len (K : List UInt8) (f : Nat) (s : List UInt8) : (semF K f s).length = 16 := by
  unfold semF
  split
  · exact tab_len _ _
  · split
    · exact tab_len _ _
    · split <;> exact tab_len _ _
def applyF (K : List UInt8) (fs : List Nat) (s : List UInt8) : List UInt8 := fs.foldl (fun s f => semF K f s) s
theorem applyF_take (K : List UInt8) (fs : List Nat) (s : List UInt8) (k : Nat) (h : k < fs.length) : applyF K (fs.take (k + 1)) s = semF K (fs.getD k 0) (applyF K (fs.take k) s) := by
  unfold applyF
  rw [List.take_succ_eq_append_getElem h, List.foldl_append]
  simp [List.getD, h]
theorem applyF_len (K : List UInt8) (fs : List Nat) (s : List UInt8) (hs : s.length = 16) : (applyF K fs s).length = 16 := by
  induction fs generalizing s with
  | nil => exact hs
  | cons f fs ih => exact ih _ (semF_len K f s)
def fsOf (i last : Nat) : List Nat :=
  if i = 0 then [57]
  else if i = last then [29, 30, 57]
  else [29, 30, 31, 57]
theorem roundE_is (last : Nat) (F s : List UInt8) (i : Nat) : roundE last F s i = applyF (keyAt F i) (fsOf i last) s := by
  unfold roundE fsOf
  by_cases h0 : i = 0
  · rw [if_pos h0, if_pos h0, h0]; rfl
  · rw [if_neg h0, if_neg h0]
    by_cases h1 : i = last
    · rw [if_pos h1, if_pos h1]; rfl
    · rw [if_neg h1, if_neg h1]; rfl
theorem fsOf_mem (i last k : Nat) (h : k < (fsOf i last).length) : (fsOf i last).getD k 0 = 57 ∨ (fsOf i last).getD k 0 = 29 ∨ (fsOf i last).getD k 0 = 30 ∨ (fsOf i last).getD k 0 = 31 := by
  unfold fsOf at h ⊢
  by_cases h0 : i = 0
  · rw [if_pos h0] at h ⊢
    obtain rfl : k = 0 := by simpa using h
    decide
  · rw [if_neg h0] at h ⊢
    by_cases h1 : i = last
    · rw [if_pos h1] at h ⊢
      obtain rfl | rfl | rfl : k = 0 ∨ k = 1 ∨ k = 2 := by simp at h; omega
      all_goals decide
    · rw [if_neg h1] at h ⊢
      obtain rfl | rfl | rfl | rfl : k = 0 ∨ k = 1 ∨ k = 2 ∨ k = 3 := by simp at h; omega
      all_goals decide
/-- A function's value. -/
def fcell (f : Nat) : Value := .func (.func f) #[] #[]
theorem fcell_at (fs : List Nat) (k : Nat) (h : k < fs.length) : ((fs.map fcell).toArray)[k]? = some (fcell (fs.getD k 0)) := by simp [h, List.getD]

set_option maxRecDepth 100000 in
set_option maxHeartbeats 1000000 in
theorem steps_any (i last : Nat) (w : World) (hi : (i : Int) ≤ 1000) (hl : (last : Int) ≤ 1000) :
    Calls Try.prog 51 #[.int .i64 (i : Int), .int .i64 (last : Int)] w fun e w' => ∃ g, e = .returned (.slice (some ⟨g, 0, none⟩) (fsOf i last).length (fsOf i last).length) ∧ w.heap.size ≤ g ∧ Blk w' g 62 ((fsOf i last).map fcell).toArray ∧ Below w.heap.size w w' := by
  by_cases h0 : i = 0
  · have e : fsOf i last = [57] := by unfold fsOf; rw [if_pos h0]
    rw [e]
    subst h0
    go_enter Try.func51, Try.ntmps51
    go_wp2
    go_ret
    exact ⟨_, rfl, Nat.le_refl _, Blk.new w _ _, ba (Below.refl _ _) _⟩
  · by_cases h1 : i = last
    · have e : fsOf i last = [29, 30, 57] := by unfold fsOf; rw [if_neg h0, if_pos h1]
      rw [e]
      subst h1
      have z0 : ((i : Int) == 0) = false := by simp; omega
      go_enter Try.func51, Try.ntmps51
      go_wp2
      go_ret
      exact ⟨_, rfl, Nat.le_refl _, Blk.new w _ _, ba (Below.refl _ _) _⟩
    · have e : fsOf i last = [29, 30, 31, 57] := by unfold fsOf; rw [if_neg h0, if_neg h1]
      rw [e]
      have z0 : ((i : Int) == 0) = false := by simp; omega
      have z1 : ((i : Int) == (last : Int)) = false := by simp; omega
      go_enter Try.func51, Try.ntmps51
      go_wp2
      go_ret
      exact ⟨_, rfl, Nat.le_refl _, Blk.new w _ _, ba (Below.refl _ _) _⟩
end Go.Proofs.Ytodolffolbkaaaa
