/- Texts of this seat, one behind the other: JFew, JRef, JROne. -/
import Derived.Test.YtfmlpomnhkjolaaQ01
import Derived.Test.YtfmlpomnhkjolaaQ14
import Derived.Test.YtfmlpomnhkjolaaQ16
/- The contracts of cut, few, alive and longer. -/
namespace Go.Proofs.Ytfmlpomnhkjolaa
open Go.RowKit

set_option maxRecDepth 100000 in
set_option maxHeartbeats 1000000 in
theorem jcut_any (s : List UInt8) (w : World) (hs : (s.length : Int) ≤ 9223372036854775807) :
    Calls Try.prog 7 #[.string ⟨s.toArray⟩] w fun e w' => e = .returned (.string ⟨(s.take 80).toArray⟩) ∧ w = w' := by
  have hz := size_mk s
  obtain ⟨N, hN⟩ : ∃ N, s.length = N := ⟨_, rfl⟩
  rw [hN] at hz hs
  obtain ⟨m, hm⟩ : ∃ m, min N 80 = m := ⟨_, rfl⟩
  have hex := extract_take s m
  have he : s.take m = s.take 80 := by
    rw [← hm]
    by_cases h : N ≤ 80
    · rw [Nat.min_eq_left h, List.take_of_length_le (by omega), List.take_of_length_le (by omega)]
    · rw [Nat.min_eq_right (by omega)]
  rw [he] at hex
  have h1 : (m : Int) ≤ (N : Int) := by omega
  have h2 : min (N : Int) 80 = (m : Int) := by omega
  have h3 : m ≤ N := by omega
  clear hm he hN
  go_enter Try.func7, Try.ntmps7
  go_wp2
  go_ret
  exact ⟨rfl, rfl⟩

/-- A text of few. -/
def fewT (s : List UInt8) : List UInt8 := if s.length ≤ 4096 then s.take 80 else s
def fewJ (L : List (List UInt8)) : List (List UInt8) := (L.take 8).map fewT
theorem fewJ_len (L : List (List UInt8)) : (fewJ L).length ≤ 8 := by simp [fewJ]; omega
theorem fewT_short (s : List UInt8) (h : (fewT s).length ≤ 4096) : (fewT s).length ≤ 80 := by
  unfold fewT at h ⊢
  split
  · rw [List.length_take]; omega
  · rename_i hh
    rw [if_neg hh] at h
    omega
theorem fewT_le (s : List UInt8) : (fewT s).length ≤ s.length := by
  unfold fewT
  split
  · rw [List.length_take]; omega
  · exact Nat.le_refl _
theorem fewJ_short (L : List (List UInt8)) (j : Nat) (h : ((fewJ L).getD j []).length ≤ 4096) : ((fewJ L).getD j []).length ≤ 80 := by
  by_cases hj : j < (fewJ L).length
  · have e : (fewJ L).getD j [] = fewT (L.getD j []) := by
      have h8 : j < 8 ∧ j < L.length := by simp [fewJ] at hj; omega
      simp [fewJ, List.getD, h8.1, h8.2]
    rw [e] at h ⊢
    exact fewT_short _ h
  · have e : (fewJ L).getD j [] = [] := by simp [List.getD, List.getElem?_eq_none (by omega : (fewJ L).length ≤ j)]
    rw [e]
    simp
theorem fewJ_max (L : List (List UInt8)) (h : ∀ j, ((L.getD j []).length : Int) ≤ 9223372036854775807) (j : Nat) : ((fewJ L).getD j []).length ≤ 9223372036854775807 := by
  by_cases hj : j < (fewJ L).length
  · have e : (fewJ L).getD j [] = fewT (L.getD j []) := by
      have h8 : j < 8 ∧ j < L.length := by simp [fewJ] at hj; omega
      simp [fewJ, List.getD, h8.1, h8.2]
    rw [e]
    have := fewT_le (L.getD j [])
    have := h j
    omega
  · have e : (fewJ L).getD j [] = [] := by simp [List.getD, List.getElem?_eq_none (by omega : (fewJ L).length ≤ j)]
    rw [e]
    simp

set_option maxRecDepth 100000 in
set_option maxHeartbeats 4000000 in
theorem jfew_any (L : List (List UInt8)) (A : Option Addr) (c : Nat) (w : World) (hA : SR w A L) (hL : (L.length : Int) ≤ 9223372036854775807) (hc : L.length ≤ c) (hs : ∀ j, ((L.getD j []).length : Int) ≤ 9223372036854775807) :
    Calls Try.prog 8 #[.slice A L.length c] w fun e w' => ∃ A' c', e = .returned (.slice A' (fewJ L).length c') ∧ w'.ownsRow w.heap.size 9 1 (.slice A' (fewJ L).length c') (fewJ L).length ((fewJ L).map sv) ∧ Below w.heap.size w w' := by
  obtain ⟨ti, hi0, hz0, hz1, hz2⟩ := info_parts infoS
  have HA := Lib.hid hA
  have HS := Lib.hid hs
  obtain ⟨n, hn⟩ : ∃ n, L.length = n := ⟨_, rfl⟩
  rw [hn] at hL hc ⊢
  obtain ⟨m, hm⟩ : ∃ m, min n 8 = m := ⟨_, rfl⟩
  have HFL : Hid ((fewJ L).length = m) := Lib.hid (by simp [fewJ, hn]; omega)
  have HFT : Hid (∀ k, k < m → (fewJ L).take (k + 1) = (fewJ L).take k ++ [fewT (L.getD k [])]) := Lib.hid fun k hk => by
    rw [List.take_succ_eq_append_getElem (by rw [HFL.out]; exact hk)]
    congr 2
    simp [fewJ, List.getD, show k < L.length by omega]
  have h1 : (m : Int) ≤ (n : Int) := by omega
  have h2 : min (n : Int) 8 = (m : Int) := by omega
  have h3 : m ≤ n := by omega
  have h4 : m ≤ 8 := by omega
  have h5 : (m : Int) ≤ (c : Int) := by omega
  have HN := Lib.hid hn
  rw [HFL.out]
  clear hn hm hA hs
  go_enter Try.func8, Try.ntmps8
  go_wp2_with fail
  go_loopw [3, 12] (fun ov iv wr => ∃ (k : Nat) (B : Option Addr) (d : Nat), k ≤ m ∧ iv = .int .i64 k ∧ ov = .slice B k d ∧ wr.ownsRow w.heap.size 9 1 (.slice B k d) k (((fewJ L).take k).map sv) ∧ Below w.heap.size w wr) (fun _ i _ => m - (intOf i).toNat)
  case atStart => exact ⟨0, none, 0, Nat.zero_le _, rfl, rfl, World.ownsRow_nil _ _ _ _, Below.refl _ _⟩
  case round =>
    obtain ⟨k, B, d, hk, rfl, rfl, hown, hb⟩ := hrel
    by_cases hlt : k < m
    · obtain ⟨g, off, rfl, c0⟩ := (HA.out.later hb) k (by rw [HN.out]; omega)
      have HT := Lib.hid (HFT.out k hlt)
      have hsl := HS.out k
      have i0 : (0 : Int) ≤ (k : Int) := by omega
      have i1 : (k : Int) < (m : Int) := by omega
      have z := hb.size
      have HO := Lib.hid hown
      clear hown
      generalize L.getD k [] = x at c0 HT hsl
      have hzx := size_mk x
      by_cases hx : x.length ≤ 4096
      · rw [show fewT x = x.take 80 by unfold fewT; rw [if_pos hx]] at HT
        have HC := Lib.hid (fun W => jcut_any x W hsl)
        generalize x.take 80 = y at HT HC
        obtain ⟨xl, hxl⟩ : ∃ xl, x.length = xl := ⟨_, rfl⟩
        rw [hxl] at hzx hx hsl
        have j1 : decide ((xl : Int) ≤ 4096) = true := by simp; omega
        have j2 : decide (xl ≤ 4096) = true := by simp; omega
        clear hsl hxl
        go_wp2_with fail
        refine (HC.out _).mono ?_
        rintro e w1 ⟨rfl, rfl⟩
        have hownA := own_later HO.out (ba (Below.refl wr.heap.size wr) (.cells #[sv y] 9))
        have hnews := World.news_of_block (heap_alloc_new wr (.cells #[sv y] 9))
        go_wp2_with (at_builtin; refine wpList_append_own _ rfl _ _ 23 rfl w.heap.size 9 ti _ 1 16 Try.underlying23 hi0 hz0 hz1 hz2 rfl (by decide) _ _ _ rfl hownA ⟨wr.heap.size, 0, none⟩ 1 1 [sv y] rfl rfl hnews (by simp [Value.oneCell']) (by unfold maxLen; omega) (by omega) (by simp; omega) ?_; intro v3 w3 hown3 hgrow3 _; obtain ⟨g3, c3, rfl⟩ := ownsRow_succ hown3)
        have hb3 : Below w.heap.size w w3 := (ba hb _).grown hgrow3 (by simp; omega) (fun k e => (hownA.lt k e).1)
        exact ⟨⟨k + 1, some ⟨g3, 0, none⟩, c3, by omega, by go_num, rfl, by rw [HT.out, List.map_append]; exact hown3, hb3⟩, by simp [intOf]; omega⟩
      · rw [show fewT x = x by unfold fewT; rw [if_neg hx]] at HT
        obtain ⟨xl, hxl⟩ : ∃ xl, x.length = xl := ⟨_, rfl⟩
        rw [hxl] at hzx hx hsl
        have j1 : decide ((xl : Int) ≤ 4096) = false := by simp; omega
        have j2 : decide (xl ≤ 4096) = false := by simp; omega
        clear hxl hx
        have hownA := own_later HO.out (ba (Below.refl wr.heap.size wr) (.cells #[sv x] 9))
        have hnews := World.news_of_block (heap_alloc_new wr (.cells #[sv x] 9))
        go_wp2_with (at_builtin; refine wpList_append_own _ rfl _ _ 23 rfl w.heap.size 9 ti _ 1 16 Try.underlying23 hi0 hz0 hz1 hz2 rfl (by decide) _ _ _ rfl hownA ⟨wr.heap.size, 0, none⟩ 1 1 [sv x] rfl rfl hnews (by simp [Value.oneCell']) (by unfold maxLen; omega) (by omega) (by simp; omega) ?_; intro v3 w3 hown3 hgrow3 _; obtain ⟨g3, c3, rfl⟩ := ownsRow_succ hown3)
        have hb3 : Below w.heap.size w w3 := (ba hb _).grown hgrow3 (by simp; omega) (fun k e => (hownA.lt k e).1)
        exact ⟨⟨k + 1, some ⟨g3, 0, none⟩, c3, by omega, by go_num, rfl, by rw [HT.out, List.map_append]; exact hown3, hb3⟩, by simp [intOf]; omega⟩
    · obtain rfl : k = m := by omega
      have htk : (fewJ L).take k = fewJ L := List.take_of_length_le (by rw [HFL.out]; exact Nat.le_refl _)
      rw [htk] at hown
      clear htk
      go_wp2
      go_ret
      exact ⟨_, _, rfl, hown, hb⟩

theorem sr_two (w : World) (a b : List UInt8) (t : TypeId) : SR (w.alloc (.cells #[sv a, sv b] t)) (some ⟨w.heap.size, 0, none⟩) [a, b] := fun j hj => by
  refine ⟨w.heap.size, 0, rfl, ?_⟩
  have hb := Blk.new w t #[sv a, sv b]
  match j, hj with
  | 0, _ => exact hb.cell 0
  | 1, _ => exact hb.cell 1

/-- A journal is scanned as it was written. -/
theorem scan_back (k f : List UInt8) (L : List (List UInt8)) (w : World) (hk : k.length ≤ 60000) (hf : f.length ≤ 60000) (hL : ∀ j, j < L.length → (L.getD j []).length ≤ 4096) (hlen : (writeL k (wordL k f) L).length ≤ 60000) :
    Calls Try.prog 18 #[.string ⟨k.toArray⟩, .string ⟨f.toArray⟩, .string ⟨(writeL k (wordL k f) L).toArray⟩] w fun e w' => ∃ A c, e = .returned (.tuple #[.slice A L.length c, .int .i64 ((writeL k (wordL k f) L).length : Int), .int .u64 (lastL k (wordL k f) L : Int)]) ∧ SR w' A L ∧ Below w.heap.size w w' := by
  have h := scan_any k f L [] w hk hf hL (Ends.short _ _ _ (by simp)) (by rw [List.append_nil]; exact hlen)
  rwa [List.append_nil] at h

set_option maxRecDepth 100000 in
set_option maxHeartbeats 2000000 in
theorem jalive_any (w : World) : Calls Try.prog 12 #[] w fun e w' => e = .returned (.bool true) ∧ Below w.heap.size w w' := by
  have hj : ∀ j, j < 2 → (([[97], []] : List (List UInt8)).getD j []).length ≤ 4096 := fun j hj => by
    match j, hj with
    | 0, _ => simp
    | 1, _ => simp
  have hlen : (writeL [107] (wordL [107] []) [[97], []]).length = 21 := by simp [writeL, recL_len]
  have W1 : Hid (∀ W A, SR W A [[97], []] → Calls Try.prog 9 #[.string ⟨#[107]⟩, .string ⟨#[]⟩, .slice A 2 2] W fun e w' => e = .returned (.tuple #[.string ⟨(writeL [107] (wordL [107] []) [[97], []]).toArray⟩, .int .i64 0]) ∧ Below W.heap.size W w') := Lib.hid (fun W A h => jwrite_yes [107] [] [[97], []] A 2 2 W rfl h (by omega) (by simp) (by simp) hj)
  have S1 : Hid (∀ W, Calls Try.prog 18 #[.string ⟨#[107]⟩, .string ⟨#[]⟩, .string ⟨(writeL [107] (wordL [107] []) [[97], []]).toArray⟩] W fun e w' => ∃ A c, e = .returned (.tuple #[.slice A 2 c, .int .i64 21, .int .u64 (lastL [107] (wordL [107] []) [[97], []] : Int)]) ∧ SR w' A [[97], []] ∧ Below W.heap.size W w') := Lib.hid (fun W => by
    have h := scan_back [107] [] [[97], []] W (by simp) (by simp) hj (by rw [hlen]; omega)
    rw [hlen] at h
    exact h)
  have M1 : Hid (∀ W A B c, SR W A [[97], []] → SR W B [[97], []] → Calls Try.prog 20 #[.slice A 2 c, .slice B 2 2] W fun e w' => e = .returned (.bool true) ∧ Below W.heap.size W w') := Lib.hid (fun W A B c h1 h2 => by
    have h := jsame_any A B c 2 2 2 [[97], []] [[97], []] W h1 h2 rfl rfl (by omega) (by omega)
    rwa [show decide (([[97], []] : List (List UInt8)) = [[97], []]) = true by simp] at h)
  have hz := size_mk (writeL [107] (wordL [107] []) [[97], []])
  rw [hlen] at hz
  generalize writeL [107] (wordL [107] []) [[97], []] = S at *
  generalize lastL [107] (wordL [107] []) [[97], []] = q at *
  clear hj hlen
  have R1 : Hid (SR (w.alloc (.cells #[.string ⟨#[97]⟩, .string ⟨#[]⟩] 9)) (some ⟨w.heap.size, 0, none⟩) [[97], []]) := Lib.hid (sr_two w [97] [] 9)
  go_enter Try.func12, Try.ntmps12
  go_wp2_with fail
  refine (W1.out _ _ R1.out).mono ?_
  rintro e w1 ⟨rfl, hb1⟩
  have hB1 := bt (ba (Below.refl w.heap.size w) (.cells #[.string ⟨#[97]⟩, .string ⟨#[]⟩] 9)) hb1
  clear hb1
  go_wp2_with fail
  refine (S1.out _).mono ?_
  rintro e w2 ⟨A, c, rfl, hs2, hb2⟩
  have hB2 := bt hB1 hb2
  have HS3 : Hid (SR (w2.alloc (.cells #[.string ⟨#[97]⟩, .string ⟨#[]⟩] 9)) A [[97], []]) := Lib.hid (hs2.later (ba (Below.refl _ _) _))
  have HR3 : Hid (SR (w2.alloc (.cells #[.string ⟨#[97]⟩, .string ⟨#[]⟩] 9)) (some ⟨w2.heap.size, 0, none⟩) [[97], []]) := Lib.hid (sr_two w2 [97] [] 9)
  clear hs2 hb2 hB1
  go_wp2_with fail
  refine (M1.out _ _ _ _ HS3.out HR3.out).mono ?_
  rintro e w3 ⟨rfl, hb3⟩
  go_wp2
  go_ret
  exact ⟨rfl, bt (ba hB2 _) hb3⟩
end Go.Proofs.Ytfmlpomnhkjolaa
/- Contracts of the reference's text, Next, Record, Long and Write. -/
namespace Go.Proofs.Ytfmlpomnhkjolaa
open Go.RowKit

theorem rlow_eight (n : Nat) (w : World) (hn : (n : Int) ≤ 18446744073709551615) :
    Calls Try.prog 34 #[.int .u64 (n : Int), .int .i64 8] w fun e w' => e = .returned (.string ⟨(low n 8).toArray⟩) ∧ Below w.heap.size w w' := rlow_any n 8 w (by omega) hn

set_option maxRecDepth 100000 in
set_option maxHeartbeats 1000000 in
theorem rtext_any (s : List UInt8) (w : World) (hs : s.length ≤ 4096) :
    Calls Try.prog 33 #[.string ⟨s.toArray⟩] w fun e w' => e = .returned (.string ⟨(textL s).toArray⟩) ∧ Below w.heap.size w w' := by
  have O1 : Hid (∀ W, Calls Try.prog 49 #[.agg #[.bool true, .int .u64 0, .string ⟨s.toArray⟩]] W fun e w' => e = .returned (.string ⟨(textL s).toArray⟩) ∧ Below W.heap.size W w') := Lib.hid (fun W => one_text 0 s W hs)
  clear hs
  generalize textL s = T at O1 ⊢
  go_enter Try.func33, Try.ntmps33
  go_wp2_with fail
  refine (O1.out _).mono ?_
  rintro e w1 ⟨rfl, hb1⟩
  go_wp2
  go_ret
  exact ⟨rfl, hb1⟩

set_option maxRecDepth 100000 in
set_option maxHeartbeats 2000000 in
theorem rnext_any (k s : List UInt8) (n : Nat) (w : World) (hk : k.length ≤ 60000) (hs : s.length ≤ 4096) (hn : n < 18446744073709551616) :
    Calls Try.prog 15 #[.string ⟨k.toArray⟩, .int .u64 (n : Int), .string ⟨s.toArray⟩] w fun e w' => e = .returned (.int .u64 (nextL k n s : Int)) ∧ Below w.heap.size w w' := by
  have T1 := Lib.hid (fun W => rtext_any s W hs)
  have hTl := textL_len s
  have HN : Hid (nextL k n s = wordL k (low n 8 ++ textL s)) := Lib.hid rfl
  have l8 := low_length n 8
  have W1 := Lib.hid (fun W => rtword_any k (low n 8 ++ textL s) W hk (by rw [List.length_append]; omega))
  rw [← HN.out] at W1
  have N1 := Lib.hid (fun W => rlow_eight n W (by omega))
  clear HN
  generalize nextL k n s = q at *
  generalize textL s = T at *
  generalize low n 8 = A at *
  have a1 : ∀ W : World, (Op.stringOp .add ⟨A.toArray⟩ ⟨T.toArray⟩).run Try.prog W = .ok (.string ⟨(A ++ T).toArray⟩) W := fun W => run_string_add_lists (P := Try.prog) W _ _ (by omega) (by omega)
  generalize A ++ T = AT at *
  clear hTl l8 hs hn hk
  go_enter Try.func15, Try.ntmps15
  go_wp2_with fail
  refine (N1.out _).mono ?_
  rintro e w2 ⟨rfl, hb2⟩
  go_wp2_with fail
  refine (T1.out _).mono ?_
  rintro e w1 ⟨rfl, hb1⟩
  go_wp2_with fail
  refine (W1.out _).mono ?_
  rintro e w3 ⟨rfl, hb3⟩
  go_wp2
  go_ret
  exact ⟨rfl, bt (bt hb2 hb1) hb3⟩

set_option maxRecDepth 100000 in
set_option maxHeartbeats 2000000 in
theorem rrecord_any (k s : List UInt8) (n : Nat) (w : World) (hk : k.length ≤ 60000) (hs : s.length ≤ 4096) (hn : n < 18446744073709551616) :
    Calls Try.prog 14 #[.string ⟨k.toArray⟩, .int .u64 (n : Int), .string ⟨s.toArray⟩] w fun e w' => e = .returned (.string ⟨(recL k n s).toArray⟩) ∧ Below w.heap.size w w' := by
  have T1 := Lib.hid (fun W => rtext_any s W hs)
  have hTl := textL_len s
  have X1 := Lib.hid (fun W => rnext_any k s n W hk hs hn)
  have HR : Hid (recL k n s = textL s ++ low (nextL k n s) 8) := Lib.hid rfl
  have hN8 := nextL_lt k n s
  have l9 := low_length (nextL k n s) 8
  have N2 := Lib.hid (fun W => rlow_eight (nextL k n s) W (by omega))
  generalize recL k n s = R at HR ⊢
  generalize nextL k n s = q at *
  generalize textL s = T at *
  generalize low q 8 = B at *
  have a2 : ∀ W : World, (Op.stringOp .add ⟨T.toArray⟩ ⟨B.toArray⟩).run Try.prog W = .ok (.string ⟨(T ++ B).toArray⟩) W := fun W => run_string_add_lists (P := Try.prog) W _ _ (by omega) (by omega)
  rw [← HR.out] at a2
  clear HR hTl hN8 l9 hs hn hk
  go_enter Try.func14, Try.ntmps14
  go_wp2_with fail
  refine (T1.out _).mono ?_
  rintro e w1 ⟨rfl, hb1⟩
  go_wp2_with fail
  refine (X1.out _).mono ?_
  rintro e w2 ⟨rfl, hb2⟩
  go_wp2_with fail
  refine (N2.out _).mono ?_
  rintro e w3 ⟨rfl, hb3⟩
  go_wp2
  go_ret
  exact ⟨rfl, bt (bt hb1 hb2) hb3⟩

set_option maxRecDepth 100000 in
set_option maxHeartbeats 2000000 in
theorem rlong_no (L : List (List UInt8)) (A : Option Addr) (c n : Nat) (w : World) (hn : L.length = n) (hA : SR w A L) (hN : n ≤ 4096) (hs : ∀ j, j < n → (L.getD j []).length ≤ 4096) :
    Calls Try.prog 16 #[.slice A n c] w fun e w' => e = .returned (.bool false) ∧ Below w.heap.size w w' := by
  have HA := Lib.hid hA
  have HS := Lib.hid hs
  have HN := Lib.hid hn
  clear hA hs hn
  go_enter Try.func16, Try.ntmps16
  go_wp2_with fail
  go_loopw [7] (fun iv wr => ∃ j : Nat, j ≤ n ∧ iv = .int .i64 j ∧ Below w.heap.size w wr) (fun i _ => n - (intOf i).toNat)
  case atStart => exact ⟨0, Nat.zero_le _, rfl, Below.refl _ _⟩
  case round =>
    obtain ⟨j, hj, rfl, hb⟩ := hrel
    by_cases hlt : j < n
    · obtain ⟨g, off, rfl, c0⟩ := (HA.out.later hb) j (by rw [HN.out]; exact hlt)
      have h1 := HS.out j hlt
      generalize L.getD j [] = x at *
      have hz := size_mk x
      obtain ⟨m, hm⟩ : ∃ m, x.length = m := ⟨_, rfl⟩
      rw [hm] at hz h1
      have i0 : (0 : Int) ≤ (j : Int) := by omega
      have i1 : (j : Int) < (n : Int) := by omega
      have i2 : decide ((4096 : Int) < (m : Int)) = false := by simp; omega
      have i3 : decide (4096 < m) = false := by simp; omega
      clear hm
      go_wp2
      exact ⟨⟨j + 1, by omega, by go_num, hb⟩, by simp [intOf]; omega⟩
    · obtain rfl : j = n := by omega
      go_wp2
      go_ret
      exact ⟨rfl, hb⟩

set_option maxRecDepth 100000 in
set_option maxHeartbeats 2000000 in
theorem rlong_yes (L : List (List UInt8)) (A : Option Addr) (c n b : Nat) (w : World) (hn : L.length = n) (hA : SR w A L) (hN : n ≤ 4096) (hs : ∀ j, j < b → (L.getD j []).length ≤ 4096) (hbn : b < n) (hlong : 4096 < (L.getD b []).length) (hmax : (L.getD b []).length ≤ 9223372036854775807) :
    Calls Try.prog 16 #[.slice A n c] w fun e w' => e = .returned (.bool true) ∧ Below w.heap.size w w' := by
  have HA := Lib.hid hA
  have HS := Lib.hid hs
  have HN := Lib.hid hn
  have HLG := Lib.hid hlong
  have HMX := Lib.hid hmax
  clear hA hs hn hlong hmax
  go_enter Try.func16, Try.ntmps16
  go_wp2_with fail
  go_loopw [7] (fun iv wr => ∃ j : Nat, j ≤ b ∧ iv = .int .i64 j ∧ Below w.heap.size w wr) (fun i _ => n - (intOf i).toNat)
  case atStart => exact ⟨0, Nat.zero_le _, rfl, Below.refl _ _⟩
  case round =>
    obtain ⟨j, hj, rfl, hb⟩ := hrel
    obtain ⟨g, off, rfl, c0⟩ := (HA.out.later hb) j (by rw [HN.out]; omega)
    have i0 : (0 : Int) ≤ (j : Int) := by omega
    have i1 : (j : Int) < (n : Int) := by omega
    by_cases hlt : j < b
    · have h1 := HS.out j hlt
      generalize L.getD j [] = x at *
      have hz := size_mk x
      obtain ⟨m, hm⟩ : ∃ m, x.length = m := ⟨_, rfl⟩
      rw [hm] at hz h1
      have i2 : decide ((4096 : Int) < (m : Int)) = false := by simp; omega
      have i3 : decide (4096 < m) = false := by simp; omega
      clear hm
      go_wp2
      exact ⟨⟨j + 1, by omega, by go_num, hb⟩, by simp [intOf]; omega⟩
    · obtain rfl : j = b := by omega
      have h1 := HLG.out
      have h2 := HMX.out
      generalize L.getD j [] = x at *
      have hz := size_mk x
      obtain ⟨m, hm⟩ : ∃ m, x.length = m := ⟨_, rfl⟩
      rw [hm] at hz h1 h2
      have i2 : decide ((4096 : Int) < (m : Int)) = true := by simp; omega
      have i3 : decide (4096 < m) = true := by simp; omega
      clear hm
      go_wp2
      go_ret
      exact ⟨rfl, hb⟩

set_option maxRecDepth 100000 in
set_option maxHeartbeats 4000000 in
theorem rwrite_any (k f : List UInt8) (L : List (List UInt8)) (A : Option Addr) (c n : Nat) (w : World) (hn : L.length = n) (hA : SR w A L) (hN : n ≤ 1024) (hk : k.length ≤ 60000) (hf : f.length ≤ 60000) (hs : ∀ j, j < n → (L.getD j []).length ≤ 4096) :
    Calls Try.prog 17 #[.string ⟨k.toArray⟩, .string ⟨f.toArray⟩, .slice A n c] w fun e w' => e = .returned (.string ⟨(writeL k (wordL k f) L).toArray⟩) ∧ Below w.heap.size w w' := by
  have HA := Lib.hid hA
  have HS := Lib.hid hs
  have HN := Lib.hid hn
  have HK := Lib.hid hk
  have S1 := Lib.hid (fun W => rtword_any k f W hk hf)
  have hq := wordL_lt k f
  generalize wordL k f = q at S1 hq ⊢
  have HT := Lib.hid (fun j (h : j < n) => writeL_take k q L j (by omega))
  have HLT := Lib.hid (fun j (h : j < n) => lastL_take k q L j (by omega))
  have HLL := Lib.hid (fun j => lastL_lt k q hq (L.take j))
  have HB : Hid (∀ j, (writeL k q (L.take j)).length ≤ 4204544) := Lib.hid fun j => by
    have h1 := writeL_len k q 4096 (L.take j) (fun s hs' => by
      obtain ⟨i, hi, rfl⟩ := List.getElem_of_mem hs'
      rw [List.length_take] at hi
      have := hs i (by omega)
      rw [List.getElem_take]
      simpa [List.getD, show i < L.length by omega] using this)
    rw [List.length_take] at h1
    have h2 : min j L.length * (4096 + 10) ≤ 1024 * (4096 + 10) := Nat.mul_le_mul_right _ (by omega)
    omega
  clear hA hs hn hk hf hq
  have HQ0 : Hid (q = lastL k q (L.take 0)) := Lib.hid rfl
  go_enter Try.func17, Try.ntmps17
  go_wp2_with fail
  refine (S1.out _).mono ?_
  rintro e w1 ⟨rfl, hb1⟩
  clear S1
  go_wp2_with fail
  go_loopw [7, 8, 16] (fun ov qv iv wr => ∃ j : Nat, j ≤ n ∧ iv = .int .i64 j ∧ qv = .int .u64 (lastL k q (L.take j) : Int) ∧ ov = .string ⟨(writeL k q (L.take j)).toArray⟩ ∧ Below w.heap.size w wr) (fun _ _ i _ => n - (intOf i).toNat)
  case atStart => exact ⟨0, Nat.zero_le _, rfl, by rw [← HQ0.out], rfl, hb1⟩
  case round =>
    clear HQ0 hb1
    obtain ⟨j, hj, rfl, rfl, rfl, hb⟩ := hrel
    by_cases hlt : j < n
    · obtain ⟨g, off, rfl, c0⟩ := (HA.out.later hb) j (by rw [HN.out]; exact hlt)
      have h1 := HS.out j hlt
      have h2 := HT.out j hlt
      have h3 := HLT.out j hlt
      have h4 := HLL.out j
      have h5 := HB.out j
      have R1 := Lib.hid (fun W => rrecord_any k (L.getD j []) (lastL k q (L.take j)) W HK.out h1 h4)
      have R2 := Lib.hid (fun W => rnext_any k (L.getD j []) (lastL k q (L.take j)) W HK.out h1 h4)
      have hrl := recL_len k (lastL k q (L.take j)) (L.getD j [])
      rw [← h3] at R2
      obtain ⟨q2, hq2⟩ : ∃ q2, lastL k q (L.take (j + 1)) = q2 := ⟨_, rfl⟩
      obtain ⟨o2, ho2⟩ : ∃ o2, writeL k q (L.take (j + 1)) = o2 := ⟨_, rfl⟩
      rw [hq2] at R2 h3
      rw [ho2] at h2
      have HQ2 := Lib.hid hq2
      have HO2 := Lib.hid ho2
      clear hq2 ho2
      generalize L.getD j [] = x at *
      generalize recL k (lastL k q (L.take j)) x = R at *
      generalize lastL k q (L.take j) = q1 at *
      generalize writeL k q (L.take j) = o1 at *
      have a1 : ∀ W : World, (Op.stringOp .add ⟨o1.toArray⟩ ⟨R.toArray⟩).run Try.prog W = .ok (.string ⟨(o1 ++ R).toArray⟩) W := fun W => run_string_add_lists (P := Try.prog) W _ _ (by omega) (by omega)
      rw [← h2] at a1
      have i0 : (0 : Int) ≤ (j : Int) := by omega
      have i1 : (j : Int) < (n : Int) := by omega
      clear h1 h2 h3 h4 h5 hrl
      go_wp2_with fail
      refine (R1.out _).mono ?_
      rintro e w2 ⟨rfl, hb2⟩
      go_wp2_with fail
      refine (R2.out _).mono ?_
      rintro e w3 ⟨rfl, hb3⟩
      have hB3 := bt (bt hb hb2) hb3
      clear hb hb2 hb3
      go_wp2
      exact ⟨⟨j + 1, by omega, by go_num, by rw [HQ2.out], by rw [HO2.out], hB3⟩, by simp [intOf]; omega⟩
    · obtain rfl : j = n := by omega
      have htk : L.take j = L := List.take_of_length_le (by rw [HN.out]; exact Nat.le_refl _)
      rw [htk]
      clear htk
      go_wp2
      go_ret
      exact ⟨rfl, hb⟩
end Go.Proofs.Ytfmlpomnhkjolaa
/- The contract of the reference's one. -/
namespace Go.Proofs.Ytfmlpomnhkjolaa
open Go.RowKit

set_option maxRecDepth 100000 in
set_option maxHeartbeats 1000000 in
theorem rone_short (k log : List UInt8) (n : Nat) (w : World) (hl : log.length < 2) :
    Calls Try.prog 37 #[.string ⟨k.toArray⟩, .int .u64 (n : Int), .string ⟨log.toArray⟩] w fun e w' => e = .returned (.int .i64 (-1)) ∧ Below w.heap.size w w' := by
  have hz := size_mk log
  obtain ⟨N, hN⟩ : ∃ N, log.length = N := ⟨_, rfl⟩
  rw [hN] at hz hl
  have i1 : decide ((N : Int) < 2) = true := by simp; omega
  have i2 : decide (N < 2) = true := by simp; omega
  clear hN
  go_enter Try.func37, Try.ntmps37
  go_wp2
  go_ret
  exact ⟨rfl, Below.refl _ _⟩

set_option maxRecDepth 100000 in
set_option maxHeartbeats 1000000 in
theorem rone_great (k log : List UInt8) (n m : Nat) (w : World) (hl : 2 ≤ log.length) (hmx : (log.length : Int) ≤ 9223372036854775807) (hm : val (log.take 2) = m) (h : 4096 < m) :
    Calls Try.prog 37 #[.string ⟨k.toArray⟩, .int .u64 (n : Int), .string ⟨log.toArray⟩] w fun e w' => e = .returned (.int .i64 (-1)) ∧ Below w.heap.size w w' := by
  have hz := size_mk log
  have hv := val_lt (log.take 2)
  have hvl : (log.take 2).length = 2 := by rw [List.length_take]; omega
  rw [hvl, hm] at hv
  have V1 := Lib.hid (fun W => value_any (log.take 2) W (by omega))
  rw [hm] at V1
  have hex := extract_take log 2
  generalize log.take 2 = T2 at V1 hex
  obtain ⟨N, hN⟩ : ∃ N, log.length = N := ⟨_, rfl⟩
  rw [hN] at hz hl hmx
  have i1 : decide ((N : Int) < 2) = false := by simp; omega
  have i2 : decide (N < 2) = false := by simp; omega
  have i3 : (2 : Int) ≤ (N : Int) := by omega
  have i4 : IntKind.i64.wrap (m : Int) = (m : Int) := by rw [IntKind.wrap_i64]; omega
  have i5 : decide ((4096 : Int) < (m : Int)) = true := by simp; omega
  have i6 : decide (4096 < m) = true := by simp; omega
  clear hN hv hvl hm
  go_enter Try.func37, Try.ntmps37
  go_wp2_with fail
  refine (V1.out _).mono ?_
  rintro e w1 ⟨rfl, rfl⟩
  go_wp2_with fail
  have hS0 : Below w.heap.size w w.drew := (Below.refl _ w).drew
  go_quiet (fail)
  go_wp2
  go_ret
  exact ⟨rfl, bdn' (Below.refl _ _) _⟩

set_option maxRecDepth 100000 in
set_option maxHeartbeats 1000000 in
theorem rone_less (k log : List UInt8) (n m : Nat) (w : World) (hl : 2 ≤ log.length) (hm : val (log.take 2) = m) (h : m ≤ 4096) (h2 : log.length < m + 10) :
    Calls Try.prog 37 #[.string ⟨k.toArray⟩, .int .u64 (n : Int), .string ⟨log.toArray⟩] w fun e w' => e = .returned (.int .i64 (-1)) ∧ Below w.heap.size w w' := by
  have hz := size_mk log
  have V1 := Lib.hid (fun W => value_any (log.take 2) W (by rw [List.length_take]; omega))
  rw [hm] at V1
  have hex := extract_take log 2
  generalize log.take 2 = T2 at V1 hex
  obtain ⟨N, hN⟩ : ∃ N, log.length = N := ⟨_, rfl⟩
  rw [hN] at hz hl h2
  obtain ⟨p, hp⟩ : ∃ p, m + 10 = p := ⟨_, rfl⟩
  rw [hp] at h2
  have i1 : decide ((N : Int) < 2) = false := by simp; omega
  have i2 : decide (N < 2) = false := by simp; omega
  have i3 : (2 : Int) ≤ (N : Int) := by omega
  have i4 : IntKind.i64.wrap (m : Int) = (m : Int) := by rw [IntKind.wrap_i64]; omega
  have i5 : decide ((4096 : Int) < (m : Int)) = false := by simp; omega
  have i6 : decide (4096 < m) = false := by simp; omega
  have i7 : (m : Int) + 10 = (p : Int) := by omega
  have i8 : decide ((N : Int) < (p : Int)) = true := by simp; omega
  have i9 : decide (N < p) = true := by simp; omega
  have i10 : IntKind.i64.wrap (p : Int) = (p : Int) := by rw [IntKind.wrap_i64]; omega
  clear hN hm hp
  go_enter Try.func37, Try.ntmps37
  go_wp2_with fail
  refine (V1.out _).mono ?_
  rintro e w1 ⟨rfl, rfl⟩
  go_wp2_with fail
  go_quiet (fail)
  go_wp2
  go_ret
  exact ⟨rfl, bdn' (Below.refl _ _) _⟩

set_option maxRecDepth 100000 in
set_option maxHeartbeats 2000000 in
theorem rone_whole (k log : List UInt8) (n m : Nat) (w : World) (hk : k.length ≤ 60000) (hn : n < 18446744073709551616) (hm : val (log.take 2) = m) (h : m ≤ 4096) (h2 : m + 10 ≤ log.length) (hmx : log.length ≤ 60000) (b : Bool) (hb : (log.take (m + 10) == recL k n (part log 2 m)) = b) :
    Calls Try.prog 37 #[.string ⟨k.toArray⟩, .int .u64 (n : Int), .string ⟨log.toArray⟩] w fun e w' => e = .returned (.int .i64 (if b = true then ((m + 10 : Nat) : Int) else -1)) ∧ Below w.heap.size w w' := by
  have hz := size_mk log
  have V1 := Lib.hid (fun W => value_any (log.take 2) W (by rw [List.length_take]; omega))
  rw [hm] at V1
  have hex := extract_take log 2
  generalize log.take 2 = T2 at V1 hex
  have hpl := part_len log 2 m (by omega)
  have R1 := Lib.hid (fun W => rrecord_any k (part log 2 m) n W hk (by omega) hn)
  obtain ⟨p, hp⟩ : ∃ p, m + 10 = p := ⟨_, rfl⟩
  obtain ⟨q, hq⟩ : ∃ q, 2 + m = q := ⟨_, rfl⟩
  have hex2 := extract_take log p
  have hex3 := extract_part log 2 q
  rw [show q - 2 = m by omega] at hex3
  rw [hp] at hb h2 ⊢
  generalize log.take p = X at hex2 hb
  generalize recL k n (part log 2 m) = Y at R1 hb
  generalize part log 2 m = T at hex3 R1
  obtain ⟨N, hN⟩ : ∃ N, log.length = N := ⟨_, rfl⟩
  rw [hN] at hz h2 hmx
  have i1 : decide ((N : Int) < 2) = false := by simp; omega
  have i2 : decide (N < 2) = false := by simp; omega
  have i3 : (2 : Int) ≤ (N : Int) := by omega
  have i4 : IntKind.i64.wrap (m : Int) = (m : Int) := by rw [IntKind.wrap_i64]; omega
  have i5 : decide ((4096 : Int) < (m : Int)) = false := by simp; omega
  have i6 : decide (4096 < m) = false := by simp; omega
  have i7 : (m : Int) + 10 = (p : Int) := by omega
  have i8 : decide ((N : Int) < (p : Int)) = false := by simp; omega
  have i9 : decide (N < p) = false := by simp; omega
  have i10 : IntKind.i64.wrap (p : Int) = (p : Int) := by rw [IntKind.wrap_i64]; omega
  have i11 : (2 : Int) + (m : Int) = (q : Int) := by omega
  have i12 : IntKind.i64.wrap (q : Int) = (q : Int) := by rw [IntKind.wrap_i64]; omega
  have i13 : (p : Int) ≤ (N : Int) := by omega
  have i14 : (q : Int) ≤ (N : Int) := by omega
  have i15 : (2 : Int) ≤ (q : Int) := by omega
  have hS0 : Below w.heap.size w w.drew := (Below.refl _ w).drew
  clear hN hm hp hq hpl hk hn
  cases b with
  | true =>
    obtain rfl : X = Y := by simpa using hb
    clear hb
    go_enter Try.func37, Try.ntmps37
    go_wp2_with fail
    refine (V1.out _).mono ?_
    rintro e w1 ⟨rfl, rfl⟩
    go_wp2_with fail
    go_region_held3 (fun W => Below w.heap.size w W) (first | assumption | exact hS0) (first
      | (go_at_call 14; (with_reducible refine (R1.out _).mono ?_); rintro e w6 ⟨rfl, hb6⟩; have hB6 := bt (by assumption : Below w.heap.size w _) hb6))
    all_goals (go_wp2_with fail; go_ret; exact ⟨rfl, by assumption⟩)
  | false =>
    have hb2 : (X != Y) = true := by simp [bne, hb]
    go_enter Try.func37, Try.ntmps37
    go_wp2_with fail
    refine (V1.out _).mono ?_
    rintro e w1 ⟨rfl, rfl⟩
    go_wp2_with fail
    go_region_held3 (fun W => Below w.heap.size w W) (first | assumption | exact hS0) (first
      | (go_at_call 14; (with_reducible refine (R1.out _).mono ?_); rintro e w6 ⟨rfl, hb6⟩; have hB6 := bt (by assumption : Below w.heap.size w _) hb6))
    all_goals (go_wp2_with fail; go_ret; exact ⟨rfl, by assumption⟩)

/-- Where a record stands. -/
theorem rone_yes (k s r : List UInt8) (n : Nat) (w : World) (hk : k.length ≤ 60000) (hn : n < 18446744073709551616) (hs : s.length ≤ 4096) (hmx : (recL k n s ++ r).length ≤ 60000) :
    Calls Try.prog 37 #[.string ⟨k.toArray⟩, .int .u64 (n : Int), .string ⟨(recL k n s ++ r).toArray⟩] w fun e w' => e = .returned (.int .i64 ((s.length + 10 : Nat) : Int)) ∧ Below w.heap.size w w' := by
  have e : recL k n s ++ r = textL s ++ (low (nextL k n s) 8 ++ r) := by unfold recL; rw [List.append_assoc]
  have hv : val ((recL k n s ++ r).take 2) = s.length := by rw [e, val_text s _ hs]
  have hl : (recL k n s ++ r).length = s.length + 10 + r.length := by rw [List.length_append, recL_len]
  have hp : part (recL k n s ++ r) 2 s.length = s := by rw [e, part_text]
  have ht : (recL k n s ++ r).take (s.length + 10) = recL k n s := by rw [← recL_len k n s]; simp
  exact rone_whole k _ n s.length w hk hn hv hs (by omega) hmx true (by rw [hp, ht]; simp)
/-- Where none does. -/
theorem rone_no (k R : List UInt8) (n : Nat) (w : World) (hk : k.length ≤ 60000) (hn : n < 18446744073709551616) (hR : Ends k n R) (hmx : R.length ≤ 60000) :
    Calls Try.prog 37 #[.string ⟨k.toArray⟩, .int .u64 (n : Int), .string ⟨R.toArray⟩] w fun e w' => e = .returned (.int .i64 (-1)) ∧ Below w.heap.size w w' := by
  by_cases h1 : R.length < 2
  · exact rone_short k R n w h1
  · by_cases h2 : 4096 < val (R.take 2)
    · exact rone_great k R n _ w (by omega) (by omega) rfl h2
    · by_cases h3 : R.length < val (R.take 2) + 10
      · exact rone_less k R n _ w (by omega) rfl (by omega) h3
      · refine rone_whole k R n _ w hk hn rfl (by omega) (by omega) hmx false ?_
        simp only [beq_eq_false_iff_ne]
        intro e
        have hl := part_len R 2 (val (R.take 2)) (by omega)
        exact hR (part R 2 (val (R.take 2))) (by omega) (by rw [← e]; exact List.take_prefix _ _)
end Go.Proofs.Ytfmlpomnhkjolaa
