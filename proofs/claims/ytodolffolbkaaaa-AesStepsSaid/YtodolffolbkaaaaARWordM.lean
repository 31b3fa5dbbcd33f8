/- A key's words as texts: plain lists; the contracts of the reference's Key and Why. -/
import Derived.Test.YtodolffolbkaaaaARMix
namespace Go.Proofs.Ytodolffolbkaaaa
open Go.RowKit

/-- A key's words as the reference has them. -/
def wordsL (key : List UInt8) : List (List UInt8) := (List.range (4 * (key.length / 4 + 7))).map (colG (keysF key))
theorem wordsL_len (key : List UInt8) : (wordsL key).length = 4 * (key.length / 4 + 7) := by simp [wordsL]
theorem wordsL_at (key : List UInt8) (i : Nat) (h : i < 4 * (key.length / 4 + 7)) : (wordsL key).getD i [] = colG (keysF key) i := by simp [wordsL, List.getD, h]
theorem take_getD (L : List (List UInt8)) (k : Nat) (h : k < L.length) : L.take (k + 1) = L.take k ++ [L.getD k []] := by
  rw [List.take_succ_eq_append_getElem h]
  simp [List.getD, h]
theorem extract_list (l : List UInt8) (a b : Nat) : (⟨l.toArray⟩ : ByteArray).extract a b = ⟨((l.take b).drop a).toArray⟩ := by
  apply ByteArray.ext
  apply Array.toList_inj.1
  rw [Lib.extract_data]
  simp [List.drop_take]
theorem key_word (key : List UInt8) (h : key.length = 16 ∨ key.length = 32) (i : Nat) (hi : i < key.length / 4) : (key.take (4 * i + 4)).drop (4 * i) = colG (keysF key) i := by
  apply list_ext (n := 4)
  · rw [List.length_drop, List.length_take]; omega
  · exact tab_len _ _
  · intro r hr
    rw [ub_drop, ub_take (by omega)]
    refine Eq.trans ?_ (ub_colG _ _ hr).symm
    rw [keysF_key key h _ (by omega)]
theorem scr_first (y0 y1 y2 y3 : UInt8) (i own : Nat) (h : i % own = 0) : scrW [y0, y1, y2, y3] i own = [box8 y1 ^^^ pw8 (i / own - 1), box8 y2, box8 y3, box8 y0] := by unfold scrW; rw [if_pos h]; rfl
theorem scr_mid (y0 y1 y2 y3 : UInt8) (i own : Nat) (h : i % own ≠ 0) (h4 : own = 8 ∧ i % own = 4) : scrW [y0, y1, y2, y3] i own = [box8 y0, box8 y1, box8 y2, box8 y3] := by unfold scrW; rw [if_neg h, if_pos h4]; rfl
theorem scr_else (y0 y1 y2 y3 : UInt8) (i own : Nat) (h : i % own ≠ 0) (h4 : ¬ (own = 8 ∧ i % own = 4)) : scrW [y0, y1, y2, y3] i own = [y0, y1, y2, y3] := by unfold scrW; rw [if_neg h, if_neg h4]
theorem xorA_four (A B : List UInt8) : xorA 4 A B = xorW A B := rfl
theorem own_at {W : World} {base g c n : Nat} {L : List (List UInt8)} {j : Nat} {x : List UInt8} (h : W.ownsRow base 9 1 (.slice (some ⟨g, 0, none⟩) n c) n ((L.take n).map sv)) (hl : n ≤ L.length) (hj : j < n) (hx : L.getD j [] = x) : W.cell? ⟨g, j, none⟩ = some (sv x) := by
  rw [h.cellAt j (by omega), svs_at _ _ (by rw [List.length_take]; omega), getD_take _ _ _ _ hj, hx]
set_option maxRecDepth 100000 in
set_option maxHeartbeats 1000000 in
theorem rKey_yes (l : List UInt8) (w : World) (hl : l.length = 16 ∨ l.length = 32) : Calls Try.prog 10 #[.string ⟨l.toArray⟩] w fun e w' => e = .returned (.bool true) ∧ w = w' := by
  have hs := size_of l
  rcases hl with hl | hl
  all_goals
    rw [hl] at hs
    go_enter Try.func10, Try.ntmps10
    go_wp2
    go_ret
    exact ⟨rfl, rfl⟩
set_option maxRecDepth 100000 in
set_option maxHeartbeats 1000000 in
theorem rKey_no (l : List UInt8) (w : World) (hl : ¬ (l.length = 16 ∨ l.length = 32)) : Calls Try.prog 10 #[.string ⟨l.toArray⟩] w fun e w' => e = .returned (.bool false) ∧ w = w' := by
  have hs := size_of l
  obtain ⟨n, hn⟩ : ∃ n, l.length = n := ⟨_, rfl⟩
  rw [hn] at hs hl
  have h1 : ((n : Int) == 16) = false := by simp; omega
  have h2 : ((n : Int) == 32) = false := by simp; omega
  have h3 : ¬ n = 16 := by omega
  have h4 : ¬ n = 32 := by omega
  clear hn
  go_enter Try.func10, Try.ntmps10
  go_wp2
  go_ret
  exact ⟨rfl, rfl⟩
set_option maxRecDepth 100000 in
set_option maxHeartbeats 1000000 in
theorem rWhy_yes (key l : List UInt8) (w : World) (hk : key.length = 16 ∨ key.length = 32) (hl : l.length = 16) : Calls Try.prog 21 #[.string ⟨key.toArray⟩, .string ⟨l.toArray⟩] w fun e w' => e = .returned (.int .i64 0) ∧ w = w' := by
  have H1 := Lib.hid (rKey_yes key w hk)
  have hs := size_of l
  rw [hl] at hs
  go_enter Try.func21, Try.ntmps21
  go_wp2_with fail
  refine H1.out.mono ?_
  rintro e w0 ⟨rfl, rfl⟩
  go_wp2
  go_ret
  exact ⟨rfl, rfl⟩
set_option maxRecDepth 100000 in
set_option maxHeartbeats 1000000 in
theorem rWhy_no (key l : List UInt8) (w : World) (h : ¬ ((key.length = 16 ∨ key.length = 32) ∧ l.length = 16)) : Calls Try.prog 21 #[.string ⟨key.toArray⟩, .string ⟨l.toArray⟩] w fun e w' => e = .returned (.int .i64 4) ∧ w = w' := by
  by_cases hk : key.length = 16 ∨ key.length = 32
  · have H1 := Lib.hid (rKey_yes key w hk)
    have hl : l.length ≠ 16 := fun hl => h ⟨hk, hl⟩
    have hs := size_of l
    obtain ⟨n, hn⟩ : ∃ n, l.length = n := ⟨_, rfl⟩
    rw [hn] at hs hl
    have h1 : ((n : Int) != 16) = true := by simp; omega
    have h3 : ¬ n = 16 := by omega
    clear hn h hk
    go_enter Try.func21, Try.ntmps21
    go_wp2_with fail
    refine H1.out.mono ?_
    rintro e w0 ⟨rfl, rfl⟩
    go_wp2
    go_ret
    exact ⟨rfl, rfl⟩
  · have H1 := Lib.hid (rKey_no key w hk)
    clear h hk
    go_enter Try.func21, Try.ntmps21
    go_wp2_with fail
    refine H1.out.mono ?_
    rintro e w0 ⟨rfl, rfl⟩
    go_wp2
    go_ret
    exact ⟨rfl, rfl⟩
end Go.Proofs.Ytodolffolbkaaaa
