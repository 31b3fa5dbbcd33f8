/- Texts of this seat, one behind the other: JMath, JRec, JWrite, JLaw. -/
import Derived.Test.YtfmlpomnhkjolaaQ01
import Derived.Test.YtfmlpomnhkjolaaQ03
import Derived.Test.YtfmlpomnhkjolaaQ07
import Derived.Test.YtfmlpomnhkjolaaQ11
import Derived.Test.YtfmlpomnhkjolaaQ12
import Derived.Test.YtfmlpomnhkjolaaQ13
/- Journals as plain lists: records, what a journal is, how far one stands. -/
namespace Go.Proofs.Ytfmlpomnhkjolaa
open Go.RowKit

/-- A text's bytes. -/
def textL (s : List UInt8) : List UInt8 := low s.length 2 ++ s
/-- The number behind a text. -/
def nextL (k : List UInt8) (n : Nat) (s : List UInt8) : Nat := wordL k (low n 8 ++ textL s)
/-- A record. -/
def recL (k : List UInt8) (n : Nat) (s : List UInt8) : List UInt8 := textL s ++ low (nextL k n s) 8
/-- The last number behind some texts. -/
def lastL (k : List UInt8) : Nat → List (List UInt8) → Nat
  | n, [] => n
  | n, s :: L => lastL k (nextL k n s) L
/-- A journal. -/
def writeL (k : List UInt8) : Nat → List (List UInt8) → List UInt8
  | _, [] => []
  | n, s :: L => recL k n s ++ writeL k (nextL k n s) L
theorem textL_len (s : List UInt8) : (textL s).length = s.length + 2 := by
  unfold textL; rw [List.length_append, low_length]; omega
theorem recL_len (k : List UInt8) (n : Nat) (s : List UInt8) : (recL k n s).length = s.length + 10 := by
  unfold recL; rw [List.length_append, low_length, textL_len]
theorem nextL_lt (k : List UInt8) (n : Nat) (s : List UInt8) : nextL k n s < 18446744073709551616 := wordL_lt _ _
theorem lastL_lt (k : List UInt8) (n : Nat) (hn : n < 18446744073709551616) (L : List (List UInt8)) : lastL k n L < 18446744073709551616 := by
  induction L generalizing n with
  | nil => exact hn
  | cons s L ih => exact ih _ (nextL_lt k n s)
theorem lastL_more (k : List UInt8) (n : Nat) (L : List (List UInt8)) (s : List UInt8) : lastL k n (L ++ [s]) = nextL k (lastL k n L) s := by
  induction L generalizing n with
  | nil => rfl
  | cons x L ih => exact ih _
theorem writeL_app (k : List UInt8) (n : Nat) (L M : List (List UInt8)) : writeL k n (L ++ M) = writeL k n L ++ writeL k (lastL k n L) M := by
  induction L generalizing n with
  | nil => rfl
  | cons x L ih =>
    rw [List.cons_append, writeL, writeL, ih, List.append_assoc]
    rfl
theorem writeL_more (k : List UInt8) (n : Nat) (L : List (List UInt8)) (s : List UInt8) : writeL k n (L ++ [s]) = writeL k n L ++ recL k (lastL k n L) s := by
  rw [writeL_app]
  simp [writeL]
theorem take_more {α : Type} (L : List α) (j : Nat) (h : j < L.length) : L.take (j + 1) = L.take j ++ [L[j]] := by
  rw [List.take_append_getElem]
theorem lastL_take (k : List UInt8) (n : Nat) (L : List (List UInt8)) (j : Nat) (h : j < L.length) : lastL k n (L.take (j + 1)) = nextL k (lastL k n (L.take j)) (L.getD j []) := by
  rw [take_more L j h, lastL_more]
  simp [List.getD, h]
theorem writeL_take (k : List UInt8) (n : Nat) (L : List (List UInt8)) (j : Nat) (h : j < L.length) : writeL k n (L.take (j + 1)) = writeL k n (L.take j) ++ recL k (lastL k n (L.take j)) (L.getD j []) := by
  rw [take_more L j h, writeL_more]
  simp [List.getD, h]
theorem writeL_split (k : List UInt8) (n : Nat) (L : List (List UInt8)) (j : Nat) : writeL k n L = writeL k n (L.take j) ++ writeL k (lastL k n (L.take j)) (L.drop j) := by
  rw [← writeL_app, List.take_append_drop]
theorem drop_one (L : List (List UInt8)) (j : Nat) (h : j < L.length) : L.drop j = L.getD j [] :: L.drop (j + 1) := by
  rw [List.drop_eq_getElem_cons h]
  simp [List.getD, h]
theorem writeL_drop (k : List UInt8) (n : Nat) (L : List (List UInt8)) (j : Nat) (h : j < L.length) : writeL k n (L.drop j) = recL k n (L.getD j []) ++ writeL k (nextL k n (L.getD j [])) (L.drop (j + 1)) := by
  rw [drop_one L j h, writeL]
theorem writeL_len (k : List UInt8) (n m : Nat) (L : List (List UInt8)) (h : ∀ s ∈ L, s.length ≤ m) : (writeL k n L).length ≤ L.length * (m + 10) := by
  induction L generalizing n with
  | nil => simp [writeL]
  | cons x L ih =>
    have h1 := h x (by simp)
    have h2 := ih (nextL k n x) (fun s hs => h s (by simp [hs]))
    rw [writeL, List.length_append, recL_len, List.length_cons, Nat.succ_mul]
    omega
theorem writeL_ge (k : List UInt8) (n : Nat) (L : List (List UInt8)) : L.length * 10 ≤ (writeL k n L).length := by
  induction L generalizing n with
  | nil => simp [writeL]
  | cons x L ih =>
    have h2 := ih (nextL k n x)
    rw [writeL, List.length_append, recL_len, List.length_cons, Nat.succ_mul]
    omega

/-- No record stands at the beginning. -/
def Ends (k : List UInt8) (n : Nat) (R : List UInt8) : Prop := ∀ s : List UInt8, s.length ≤ 4096 → ¬ recL k n s <+: R
theorem Ends.short (k : List UInt8) (n : Nat) (R : List UInt8) (h : R.length < 10) : Ends k n R := fun s _ hp => by
  have := hp.length_le
  rw [recL_len] at this
  omega
/-- Any bytes are a journal, and what ends it. -/
theorem any_journal (k : List UInt8) : ∀ (m : Nat) (log : List UInt8) (n : Nat), log.length ≤ m → ∃ L R, log = writeL k n L ++ R ∧ (∀ s ∈ L, s.length ≤ 4096) ∧ Ends k (lastL k n L) R := by
  intro m
  induction m with
  | zero => exact fun log n h => ⟨[], log, rfl, (fun s hs => by cases hs), Ends.short _ _ _ (by omega)⟩
  | succ m ih =>
    intro log n h
    by_cases hx : Ends k n log
    · exact ⟨[], log, rfl, (fun s hs => by cases hs), hx⟩
    · unfold Ends at hx
      simp only [Classical.not_forall, Classical.not_not] at hx
      obtain ⟨s, hs, r, hr⟩ := hx
      have hl : log.length = s.length + 10 + r.length := by rw [← hr, List.length_append, recL_len]
      obtain ⟨L, R, h1, h2, h3⟩ := ih r (nextL k n s) (by omega)
      refine ⟨s :: L, R, ?_, fun x hx => ?_, h3⟩
      · rw [writeL, List.append_assoc, ← h1, hr]
      · rcases List.mem_cons.1 hx with rfl | hx
        · exact hs
        · exact h2 x hx

/-- A part of a record, and no whole one, is none. -/
theorem Ends.part (k : List UInt8) (n : Nat) (s R r : List UInt8) (hs : s.length ≤ 4096) (hR : R <+: recL k n s ++ r) (hl : R.length < s.length + 10) : Ends k n R := fun x hx hp => by
  have h1 := hp.length_le
  rw [recL_len] at h1
  have e1 : R.take 2 = low x.length 2 := by
    obtain ⟨y, rfl⟩ := hp
    unfold recL textL
    rw [List.append_assoc, List.append_assoc, List.take_append_of_le_length (by rw [low_length]; omega), List.take_of_length_le (by rw [low_length]; omega)]
  have e2 : R.take 2 = low s.length 2 := by
    obtain ⟨y, hy⟩ := hR
    have : (R ++ y).take 2 = R.take 2 := List.take_append_of_le_length (by omega)
    rw [← this, hy]
    unfold recL textL
    rw [List.append_assoc, List.append_assoc, List.take_append_of_le_length (by rw [low_length]; omega), List.take_of_length_le (by rw [low_length]; omega)]
  have := low_inj (n := x.length) (m := s.length) (k := 2) (by omega) (by omega) (by rw [← e1, e2])
  omega
/-- A journal that is cut: m records stand whole. -/
theorem cut_journal (k : List UInt8) (n : Nat) (L : List (List UInt8)) (j m : Nat) (hL : ∀ s ∈ L, s.length ≤ 4096) (hm : m ≤ L.length) (h1 : (writeL k n (L.take m)).length ≤ j) (h2 : m < L.length → j < (writeL k n (L.take m)).length + (L.getD m []).length + 10) :
    ∃ R, (writeL k n L).take j = writeL k n (L.take m) ++ R ∧ Ends k (lastL k n (L.take m)) R := by
  refine ⟨(writeL k (lastL k n (L.take m)) (L.drop m)).take (j - (writeL k n (L.take m)).length), ?_, ?_⟩
  · rw [writeL_split k n L m, List.take_append, List.take_of_length_le h1]
  · by_cases h : m < L.length
    · have h3 := h2 h
      rw [writeL_drop _ _ _ _ h]
      refine Ends.part k _ (L.getD m []) _ _ ?_ (List.take_prefix _ _) ?_
      · simp only [List.getD, h, List.getElem?_eq_getElem, Option.getD_some]
        exact hL _ (List.getElem_mem h)
      · rw [List.length_take]
        omega
    · obtain rfl : m = L.length := by omega
      rw [List.drop_length]
      refine Ends.short _ _ _ ?_
      simp [writeL]

/-- What the first two bytes of a text's bytes tell. -/
theorem val_text (s r : List UInt8) (h : s.length ≤ 4096) : val ((textL s ++ r).take 2) = s.length := by
  unfold textL
  rw [List.append_assoc, List.take_append_of_le_length (by rw [low_length]; omega), List.take_of_length_le (by rw [low_length]; omega), val_low]
  exact Nat.mod_eq_of_lt (by omega)
theorem part_text (s r : List UInt8) : part (textL s ++ r) 2 s.length = s := by
  unfold part textL
  rw [List.append_assoc, List.drop_append_of_le_length (by rw [low_length]; omega), List.drop_of_length_le (by rw [low_length]; omega), List.nil_append, List.take_append_of_le_length (Nat.le_refl _), List.take_of_length_le (Nat.le_refl _)]
end Go.Proofs.Ytfmlpomnhkjolaa
/- Contracts of Start, Record, sizeOf, HasPrefix and firstText. -/
namespace Go.Proofs.Ytfmlpomnhkjolaa
open Go.RowKit

set_option maxRecDepth 100000 in
set_option maxHeartbeats 1000000 in
theorem jstart_any (k f : List UInt8) (w : World) (hk : k.length ≤ 60000) (hf : f.length ≤ 60000) :
    Calls Try.prog 10 #[.string ⟨k.toArray⟩, .string ⟨f.toArray⟩] w fun e w' => e = .returned (.int .u64 (wordL k f : Int)) ∧ Below w.heap.size w w' := by
  go_enter Try.func10, Try.ntmps10
  go_wp2_with fail
  refine (tword_any k f _ hk hf).mono ?_
  rintro e w1 ⟨rfl, hb1⟩
  go_wp2
  go_ret
  exact ⟨rfl, hb1⟩

set_option maxRecDepth 100000 in
set_option maxHeartbeats 1000000 in
theorem record_long (k s : List UInt8) (n : Nat) (w : World) (hs : 4096 < s.length) (hm : s.length ≤ 9223372036854775807) :
    Calls Try.prog 13 #[.string ⟨k.toArray⟩, .int .u64 (n : Int), .string ⟨s.toArray⟩] w fun e w' => e = .returned (.tuple #[.string ⟨#[]⟩, .int .u64 0, .int .i64 4]) ∧ Below w.heap.size w w' := by
  have T1 := Lib.hid (fun W => text_long s W hs hm)
  clear hs hm
  go_enter Try.func13, Try.ntmps13
  go_wp2_with fail
  refine (T1.out _).mono ?_
  rintro e w1 ⟨rfl, hb1⟩
  go_wp2
  go_ret3
  exact ⟨rfl, hb1⟩

set_option maxRecDepth 100000 in
set_option maxHeartbeats 2000000 in
theorem record_yes (k s : List UInt8) (n : Nat) (w : World) (hk : k.length ≤ 60000) (hs : s.length ≤ 4096) (hn : n < 18446744073709551616) :
    Calls Try.prog 13 #[.string ⟨k.toArray⟩, .int .u64 (n : Int), .string ⟨s.toArray⟩] w fun e w' => e = .returned (.tuple #[.string ⟨(recL k n s).toArray⟩, .int .u64 (nextL k n s : Int), .int .i64 0]) ∧ Below w.heap.size w w' := by
  have T1 := Lib.hid (fun W => text_ok s W hs)
  have HE : enc (true, 0, s) = textL s := enc_text 0 s
  rw [HE] at T1
  have hTl := textL_len s
  have HR : Hid (recL k n s = textL s ++ low (nextL k n s) 8) := Lib.hid rfl
  have HN : Hid (nextL k n s = wordL k (low n 8 ++ textL s)) := Lib.hid rfl
  have hN8 := nextL_lt k n s
  have l8 := low_length n 8
  have l9 := low_length (nextL k n s) 8
  have W1 := Lib.hid (fun W => tword_any k (low n 8 ++ textL s) W hk (by rw [List.length_append]; omega))
  rw [← HN.out] at W1
  have N1 := Lib.hid (fun W => number_any n W (by omega))
  have N2 := Lib.hid (fun W => number_any (nextL k n s) W (by omega))
  clear HN HE
  generalize recL k n s = R at HR ⊢
  generalize nextL k n s = q at *
  generalize textL s = T at *
  generalize low n 8 = A at *
  generalize low q 8 = B at *
  have a1 : ∀ W : World, (Op.stringOp .add ⟨A.toArray⟩ ⟨T.toArray⟩).run Try.prog W = .ok (.string ⟨(A ++ T).toArray⟩) W := fun W => run_string_add_lists (P := Try.prog) W _ _ (by omega) (by omega)
  have a2 : ∀ W : World, (Op.stringOp .add ⟨T.toArray⟩ ⟨B.toArray⟩).run Try.prog W = .ok (.string ⟨(T ++ B).toArray⟩) W := fun W => run_string_add_lists (P := Try.prog) W _ _ (by omega) (by omega)
  rw [← HR.out] at a2
  generalize A ++ T = AT at *
  clear HR hTl hN8 l8 l9 hs hn hk
  go_enter Try.func13, Try.ntmps13
  go_wp2_with fail
  refine (T1.out _).mono ?_
  rintro e w1 ⟨rfl, hb1⟩
  go_wp2_with fail
  refine (N1.out _).mono ?_
  rintro e w2 ⟨rfl, hb2⟩
  go_wp2_with fail
  refine (W1.out _).mono ?_
  rintro e w3 ⟨rfl, hb3⟩
  go_wp2_with fail
  refine (N2.out _).mono ?_
  rintro e w4 ⟨rfl, hb4⟩
  go_wp2
  go_ret3
  exact ⟨rfl, bt (bt (bt hb1 hb2) hb3) hb4⟩

set_option maxRecDepth 100000 in
set_option maxHeartbeats 1000000 in
theorem sizeOfJ_any (s : List UInt8) (w : World) (hs : s.length ≤ 1048576) :
    Calls Try.prog 36 #[.string ⟨s.toArray⟩] w fun e w' => e = .returned (.int .i64 ((s.length + 10 : Nat) : Int)) ∧ w = w' := by
  have hz := size_mk s
  go_enter Try.func36, Try.ntmps36
  go_wp2
  go_ret
  exact ⟨by go_num, rfl⟩

theorem prefix_take (p s : List UInt8) : decide (p <+: s) = (s.take p.length == p) := by
  rw [Bool.eq_iff_iff]
  simp only [decide_eq_true_eq, beq_iff_eq, List.prefix_iff_eq_take]
  exact ⟨fun h => h.symm, fun h => h.symm⟩
set_option maxRecDepth 100000 in
set_option maxHeartbeats 1000000 in
theorem lprefix_any (s p : List UInt8) (w : World) :
    Calls Try.prog 38 #[.string ⟨s.toArray⟩, .string ⟨p.toArray⟩] w fun e w' => e = .returned (.bool (decide (p <+: s))) ∧ w = w' := by
  have hz := size_mk s
  have hzp := size_mk p
  have hPT := prefix_take p s
  obtain ⟨N, hN⟩ : ∃ N, s.length = N := ⟨_, rfl⟩
  obtain ⟨m, hm⟩ : ∃ m, p.length = m := ⟨_, rfl⟩
  rw [hN] at hz
  rw [hm] at hzp hPT
  rw [hPT]
  by_cases h : m ≤ N
  · have hex := extract_take s m
    have h1 : decide ((m : Int) ≤ (N : Int)) = true := by simp; omega
    have h2 : (m : Int) ≤ (N : Int) := by omega
    have h3 : decide ((N : Int) < (m : Int)) = false := by simp; omega
    clear hPT hN hm
    generalize s.take m = X at hex ⊢
    cases hq : X == p with
    | true =>
      have : X = p := by simpa using hq
      subst this
      clear hq
      go_enter Try.func38, Try.ntmps38
      go_wp2
      go_ret
      exact ⟨rfl, rfl⟩
    | false =>
      go_enter Try.func38, Try.ntmps38
      go_wp2
      go_ret
      exact ⟨rfl, rfl⟩
  · have hq : (s.take m == p) = false := by
      simp only [beq_eq_false_iff_ne]
      intro e
      have : (s.take m).length = m := by rw [e, hm]
      rw [List.length_take] at this
      omega
    rw [hq]
    have h1 : decide ((m : Int) ≤ (N : Int)) = false := by simp; omega
    have h3 : decide ((N : Int) < (m : Int)) = true := by simp; omega
    clear hPT hN hm hq
    go_enter Try.func38, Try.ntmps38
    go_wp2
    go_ret
    exact ⟨rfl, rfl⟩
set_option maxRecDepth 100000 in
set_option maxHeartbeats 1000000 in
theorem prefix_any (s p : List UInt8) (w : World) :
    Calls Try.prog 25 #[.string ⟨s.toArray⟩, .string ⟨p.toArray⟩] w fun e w' => e = .returned (.bool (decide (p <+: s))) ∧ w = w' := by
  go_enter Try.func25, Try.ntmps25
  go_wp2_with fail
  refine (lprefix_any s p _).mono ?_
  rintro e w1 ⟨rfl, rfl⟩
  go_wp2
  go_ret
  exact ⟨rfl, rfl⟩

/-- The text at the beginning, if more bytes stand behind it. -/
def firstO (R : List UInt8) : Option (List UInt8) :=
  if 2 ≤ R.length ∧ val (part R 0 2) ≤ 4096 ∧ 2 + val (part R 0 2) < R.length then some (part R 2 (val (part R 0 2))) else none
theorem firstO_split_some (R s : List UInt8) (h : firstO R = some s) : ∃ m, splitGo R [116] 0 [] = ([], 2 + m, 10) ∧ s = part R 2 m ∧ m ≤ 4096 ∧ 2 + m < R.length := by
  unfold firstO at h
  split at h
  · rename_i hh
    obtain ⟨h1, h2, h3⟩ := hh
    injection h with h
    refine ⟨val (part R 0 2), ?_, h.symm, h2, h3⟩
    have hf : fsz R 0 116 = some (2 + val (part R 0 2)) := by unfold fsz; simp; omega
    unfold splitGo
    rw [hf]
    simp only [Nat.zero_add]
    unfold splitGo
    rw [if_pos h3]
  · cases h
theorem firstO_split_none (R : List UInt8) (h : firstO R = none) : ∃ L c, splitGo R [116] 0 [] = (L, 0, c) := by
  unfold firstO at h
  split at h
  · cases h
  · rename_i hh
    cases hf : fsz R 0 116 with
    | none => exact ⟨[], 10, by unfold splitGo; rw [hf]⟩
    | some z =>
      unfold fsz at hf
      simp at hf
      obtain ⟨⟨h1, h2, h3⟩, rfl⟩ := hf
      refine ⟨[fldAt R 0 116], 0, ?_⟩
      unfold splitGo
      have hf : fsz R 0 116 = some (2 + val (part R 0 2)) := by unfold fsz; simp; omega
      rw [hf]
      simp only [Nat.zero_add]
      unfold splitGo
      rw [if_neg (by omega)]
      simp
theorem firstO_len (R s : List UInt8) (h : firstO R = some s) : s.length ≤ 4096 := by
  obtain ⟨m, _, rfl, h2, _⟩ := firstO_split_some R s h
  unfold part
  rw [List.length_take]
  omega
/-- Where a record stands, its text is the first one. -/
theorem firstO_rec (k s r : List UInt8) (n : Nat) (hs : s.length ≤ 4096) : firstO (recL k n s ++ r) = some s := by
  have hl : (recL k n s ++ r).length = s.length + 10 + r.length := by rw [List.length_append, recL_len]
  have e : recL k n s ++ r = textL s ++ (low (nextL k n s) 8 ++ r) := by unfold recL; rw [List.append_assoc]
  have hv : val (part (recL k n s ++ r) 0 2) = s.length := by
    rw [e, ← val_text s (low (nextL k n s) 8 ++ r) hs]
    rfl
  unfold firstO
  rw [hv, if_pos (by omega), e, part_text]

set_option maxRecDepth 100000 in
set_option maxHeartbeats 1000000 in
theorem first_some (R s : List UInt8) (w : World) (hR : R.length ≤ 1048576) (h : firstO R = some s) :
    Calls Try.prog 51 #[.string ⟨R.toArray⟩] w fun e w' => e = .returned (.tuple #[.string ⟨s.toArray⟩, .bool true]) ∧ Below w.heap.size w w' := by
  have hsl := firstO_len R s h
  obtain ⟨m, h1, h2, h3, h4⟩ := firstO_split_some R s h
  have S1 := Lib.hid (fun W => split_ok R [116] W _ h1 (fun k hk => by simp at hk; exact .inr hk) (by simp) (by omega))
  have C1 := Lib.hid (fun W => clone_any s W (by omega))
  have hz := size_mk R
  obtain ⟨b, hb⟩ : ∃ b, 2 + m = b := ⟨_, rfl⟩
  have hex := extract_part R 2 b
  rw [show b - 2 = m by omega, ← h2] at hex
  rw [hb] at S1
  obtain ⟨N, hN⟩ : ∃ N, R.length = N := ⟨_, rfl⟩
  rw [hN] at hz hR h4
  have i1 : (2 : Int) ≤ (b : Int) := by omega
  have i2 : (b : Int) ≤ (N : Int) := by omega
  have i3 : ((b : Int) == 0) = false := by simp; omega
  clear h h1 h2 h3 h4 hsl hb hN
  go_enter Try.func51, Try.ntmps51
  go_wp2_with fail
  refine (S1.out _).mono ?_
  rintro e w1 ⟨A, cap, rfl, -, -, hb1⟩
  go_wp2_with fail
  refine (C1.out _).mono ?_
  rintro e w2 ⟨rfl, hb2⟩
  go_wp2
  go_ret2
  exact ⟨rfl, bt hb1 hb2⟩
set_option maxRecDepth 100000 in
set_option maxHeartbeats 1000000 in
theorem first_none (R : List UInt8) (w : World) (hR : R.length ≤ 1048576) (h : firstO R = none) :
    Calls Try.prog 51 #[.string ⟨R.toArray⟩] w fun e w' => e = .returned (.tuple #[.string ⟨#[]⟩, .bool false]) ∧ Below w.heap.size w w' := by
  obtain ⟨L, c, h1⟩ := firstO_split_none R h
  have S1 := Lib.hid (fun W => split_ok R [116] W _ h1 (fun k hk => by simp at hk; exact .inr hk) (by simp) (by omega))
  clear h h1
  go_enter Try.func51, Try.ntmps51
  go_wp2_with fail
  refine (S1.out _).mono ?_
  rintro e w1 ⟨A, cap, rfl, -, -, hb1⟩
  go_wp2
  go_ret2
  exact ⟨rfl, hb1⟩
end Go.Proofs.Ytfmlpomnhkjolaa
/- The contract of Write. -/
namespace Go.Proofs.Ytfmlpomnhkjolaa
open Go.RowKit

theorem bcells_app (l s : List UInt8) : Lib.byteCells l ++ Lib.strCells ⟨s.toArray⟩ = Lib.byteCells (l ++ s) := by simp [Lib.byteCells, Lib.strCells_eq]

set_option maxRecDepth 100000 in
set_option maxHeartbeats 4000000 in
theorem jwrite_yes (k f : List UInt8) (L : List (List UInt8)) (A : Option Addr) (c n : Nat) (w : World) (hn : L.length = n) (hA : SR w A L) (hN : n ≤ 4096) (hk : k.length ≤ 60000) (hf : f.length ≤ 60000) (hs : ∀ j, j < n → (L.getD j []).length ≤ 4096) :
    Calls Try.prog 9 #[.string ⟨k.toArray⟩, .string ⟨f.toArray⟩, .slice A n c] w fun e w' => e = .returned (.tuple #[.string ⟨(writeL k (wordL k f) L).toArray⟩, .int .i64 0]) ∧ Below w.heap.size w w' := by
  have HA := Lib.hid hA
  have HS := Lib.hid hs
  have HN := Lib.hid hn
  have HK := Lib.hid hk
  have S1 := Lib.hid (fun W => jstart_any k f W hk hf)
  have hq := wordL_lt k f
  generalize wordL k f = q at S1 hq ⊢
  have HT := Lib.hid (fun j (h : j < n) => writeL_take k q L j (by omega))
  have HLT := Lib.hid (fun j (h : j < n) => lastL_take k q L j (by omega))
  have HLL := Lib.hid (fun j => lastL_lt k q hq (L.take j))
  have HB : Hid (∀ j, (writeL k q (L.take j)).length ≤ 16818176) := Lib.hid fun j => by
    have h1 := writeL_len k q 4096 (L.take j) (fun s hs' => by
      obtain ⟨i, hi, rfl⟩ := List.getElem_of_mem hs'
      rw [List.length_take] at hi
      have := hs i (by omega)
      rw [List.getElem_take]
      simpa [List.getD, show i < L.length by omega] using this)
    rw [List.length_take] at h1
    have h2 : min j L.length * (4096 + 10) ≤ 4096 * (4096 + 10) := Nat.mul_le_mul_right _ (by omega)
    omega
  have B0 := Lib.hid (Lib.fresh_isBuilder 58 5 w)
  have hB0 := ba (Below.refl w.heap.size w) (.cells #[.pointer none, .slice none 0 0] 58)
  clear hA hs hn hk hf hq
  go_enter Try.func9, Try.ntmps9
  go_wp2_with fail
  refine (S1.out _).mono ?_
  rintro e w1 ⟨rfl, hb1⟩
  have hB1 := bt hB0 hb1
  have HB1 : Hid (Bld w1 w.heap.size w.heap.size (Lib.byteCells (writeL k q (L.take 0)))) := Lib.hid (Bld.later B0.out hb1)
  have HQ0 : Hid (q = lastL k q (L.take 0)) := Lib.hid rfl
  clear B0 hB0 hb1 S1
  go_wp2_with fail
  go_loopw [9, 20] (fun qv iv wr => ∃ j : Nat, j ≤ n ∧ iv = .int .i64 j ∧ qv = .int .u64 (lastL k q (L.take j) : Int) ∧ Bld wr w.heap.size w.heap.size (Lib.byteCells (writeL k q (L.take j))) ∧ Below w.heap.size w wr) (fun _ i _ => n - (intOf i).toNat)
  case atStart => exact ⟨0, Nat.zero_le _, rfl, by rw [← HQ0.out], HB1.out, hB1⟩
  case round =>
    clear HB1 HQ0 hB1
    obtain ⟨j, hj, rfl, rfl, hbl, hb⟩ := hrel
    by_cases hlt : j < n
    · obtain ⟨g, off, rfl, c0⟩ := (HA.out.later hb) j (by rw [HN.out]; exact hlt)
      have h1 := HS.out j hlt
      have h2 := HT.out j hlt
      have h3 := HLT.out j hlt
      have h4 := HLL.out j
      have h5 := HB.out j
      have R1 := Lib.hid (fun W => record_yes k (L.getD j []) (lastL k q (L.take j)) W HK.out h1 h4)
      have hrl := recL_len k (lastL k q (L.take j)) (L.getD j [])
      rw [← h3] at R1
      obtain ⟨q2, hq2⟩ : ∃ q2, lastL k q (L.take (j + 1)) = q2 := ⟨_, rfl⟩
      rw [hq2] at R1 h3
      have HQ2 := Lib.hid hq2
      clear hq2
      generalize L.getD j [] = x at *
      generalize recL k (lastL k q (L.take j)) x = R at *
      generalize lastL k q (L.take j) = q1 at *
      have H2 := Lib.hid h2
      have i0 : (0 : Int) ≤ (j : Int) := by omega
      have i1 : (j : Int) < (n : Int) := by omega
      have z := hb.size
      have HLN : Hid ((Lib.byteCells (writeL k q (L.take j))).length + (⟨R.toArray⟩ : ByteArray).size ≤ 140737488355328) := Lib.hid (by rw [bcells_len, size_mk]; omega)
      have HBL := Lib.hid hbl
      clear h1 h2 h3 h4 h5 hrl hbl
      go_wp2_with fail
      refine (R1.out _).mono ?_
      rintro e w2 ⟨rfl, hb2⟩
      have hB2 := bt hb hb2
      have z2 := hB2.size
      have HBL2 := Lib.hid (HBL.out.later hb2)
      clear HBL hb2 hb
      go_wp2_with fail
      refine (bstring_any _ _ _ ⟨R.toArray⟩ _ HBL2.out HLN.out z2).mono ?_
      rintro e w3 ⟨rfl, hbl3, hb3⟩
      rw [bcells_app, ← H2.out] at hbl3
      have HBL3 := Lib.hid hbl3
      have hB3 := hB2.trans hb3
      clear hbl3 hb3 hB2 HBL2 HLN
      go_wp2
      exact ⟨⟨j + 1, by omega, by go_num, by rw [HQ2.out], HBL3.out, hB3⟩, by simp [intOf]; omega⟩
    · obtain rfl : j = n := by omega
      have htk : L.take j = L := List.take_of_length_le (by rw [HN.out]; exact Nat.le_refl _)
      rw [htk] at hbl
      have z := hb.size
      have HBL := Lib.hid hbl
      clear htk hbl
      go_wp2_with fail
      refine (btext_any _ _ _ _ HBL.out z).mono ?_
      rintro e w2 ⟨rfl, hb2⟩
      go_wp2
      go_ret2
      exact ⟨rfl, hb.trans hb2⟩

set_option maxRecDepth 100000 in
set_option maxHeartbeats 4000000 in
theorem jwrite_long (k f : List UInt8) (L : List (List UInt8)) (A : Option Addr) (c n b : Nat) (w : World) (hn : L.length = n) (hA : SR w A L) (hN : n ≤ 4096) (hk : k.length ≤ 60000) (hf : f.length ≤ 60000) (hs : ∀ j, j < b → (L.getD j []).length ≤ 4096) (hbn : b < n) (hlong : 4096 < (L.getD b []).length) (hmax : (L.getD b []).length ≤ 9223372036854775807) :
    Calls Try.prog 9 #[.string ⟨k.toArray⟩, .string ⟨f.toArray⟩, .slice A n c] w fun e w' => e = .returned (.tuple #[.string ⟨#[]⟩, .int .i64 4]) ∧ Below w.heap.size w w' := by
  have HA := Lib.hid hA
  have HS := Lib.hid hs
  have HN := Lib.hid hn
  have HK := Lib.hid hk
  have HLG := Lib.hid (fun q W => record_long k (L.getD b []) q W hlong hmax)
  have S1 := Lib.hid (fun W => jstart_any k f W hk hf)
  have hq := wordL_lt k f
  generalize wordL k f = q at S1 hq
  have HT := Lib.hid (fun j (h : j < b) => writeL_take k q L j (by omega))
  have HLT := Lib.hid (fun j (h : j < b) => lastL_take k q L j (by omega))
  have HLL := Lib.hid (fun j => lastL_lt k q hq (L.take j))
  have HB : Hid (∀ j, j ≤ b → (writeL k q (L.take j)).length ≤ 16818176) := Lib.hid fun j hj => by
    have h1 := writeL_len k q 4096 (L.take j) (fun s hs' => by
      obtain ⟨i, hi, rfl⟩ := List.getElem_of_mem hs'
      rw [List.length_take] at hi
      have := hs i (by omega)
      rw [List.getElem_take]
      simpa [List.getD, show i < L.length by omega] using this)
    rw [List.length_take] at h1
    have h2 : min j L.length * (4096 + 10) ≤ 4096 * (4096 + 10) := Nat.mul_le_mul_right _ (by omega)
    omega
  have B0 := Lib.hid (Lib.fresh_isBuilder 58 5 w)
  have hB0 := ba (Below.refl w.heap.size w) (.cells #[.pointer none, .slice none 0 0] 58)
  clear hA hs hn hk hf hq hlong hmax
  go_enter Try.func9, Try.ntmps9
  go_wp2_with fail
  refine (S1.out _).mono ?_
  rintro e w1 ⟨rfl, hb1⟩
  have hB1 := bt hB0 hb1
  have HB1 : Hid (Bld w1 w.heap.size w.heap.size (Lib.byteCells (writeL k q (L.take 0)))) := Lib.hid (Bld.later B0.out hb1)
  have HQ0 : Hid (q = lastL k q (L.take 0)) := Lib.hid rfl
  clear B0 hB0 hb1 S1
  go_wp2_with fail
  go_loopw [9, 20] (fun qv iv wr => ∃ j : Nat, j ≤ b ∧ iv = .int .i64 j ∧ qv = .int .u64 (lastL k q (L.take j) : Int) ∧ Bld wr w.heap.size w.heap.size (Lib.byteCells (writeL k q (L.take j))) ∧ Below w.heap.size w wr) (fun _ i _ => n - (intOf i).toNat)
  case atStart => exact ⟨0, Nat.zero_le _, rfl, by rw [← HQ0.out], HB1.out, hB1⟩
  case round =>
    clear HB1 HQ0 hB1
    obtain ⟨j, hj, rfl, rfl, hbl, hb⟩ := hrel
    obtain ⟨g, off, rfl, c0⟩ := (HA.out.later hb) j (by rw [HN.out]; omega)
    have i0 : (0 : Int) ≤ (j : Int) := by omega
    have i1 : (j : Int) < (n : Int) := by omega
    by_cases hlt : j < b
    · have h1 := HS.out j hlt
      have h2 := HT.out j hlt
      have h3 := HLT.out j hlt
      have h4 := HLL.out j
      have h5 := HB.out j (by omega)
      have R1 := Lib.hid (fun W => record_yes k (L.getD j []) (lastL k q (L.take j)) W HK.out h1 h4)
      have hrl := recL_len k (lastL k q (L.take j)) (L.getD j [])
      rw [← h3] at R1
      obtain ⟨q2, hq2⟩ : ∃ q2, lastL k q (L.take (j + 1)) = q2 := ⟨_, rfl⟩
      rw [hq2] at R1 h3
      have HQ2 := Lib.hid hq2
      clear hq2
      generalize L.getD j [] = x at *
      generalize recL k (lastL k q (L.take j)) x = R at *
      generalize lastL k q (L.take j) = q1 at *
      have H2 := Lib.hid h2
      have z := hb.size
      have HLN : Hid ((Lib.byteCells (writeL k q (L.take j))).length + (⟨R.toArray⟩ : ByteArray).size ≤ 140737488355328) := Lib.hid (by rw [bcells_len, size_mk]; omega)
      have HBL := Lib.hid hbl
      clear h1 h2 h3 h4 h5 hrl hbl
      go_wp2_with fail
      refine (R1.out _).mono ?_
      rintro e w2 ⟨rfl, hb2⟩
      have hB2 := bt hb hb2
      have z2 := hB2.size
      have HBL2 := Lib.hid (HBL.out.later hb2)
      clear HBL hb2 hb
      go_wp2_with fail
      refine (bstring_any _ _ _ ⟨R.toArray⟩ _ HBL2.out HLN.out z2).mono ?_
      rintro e w3 ⟨rfl, hbl3, hb3⟩
      rw [bcells_app, ← H2.out] at hbl3
      have HBL3 := Lib.hid hbl3
      have hB3 := hB2.trans hb3
      clear hbl3 hb3 hB2 HBL2 HLN
      go_wp2
      exact ⟨⟨j + 1, by omega, by go_num, by rw [HQ2.out], HBL3.out, hB3⟩, by simp [intOf]; omega⟩
    · obtain rfl : j = b := by omega
      have HLG1 := Lib.hid (fun W => HLG.out (lastL k q (L.take j)) W)
      generalize L.getD j [] = x at *
      generalize lastL k q (L.take j) = q1 at *
      clear hbl
      go_wp2_with fail
      refine (HLG1.out _).mono ?_
      rintro e w2 ⟨rfl, hb2⟩
      go_wp2
      go_ret2
      exact ⟨rfl, bt hb hb2⟩
end Go.Proofs.Ytfmlpomnhkjolaa
/- A loop over a function that hands pairs on and that owns some blocks: what the loop owes, what the function owes. Nothing of any function. -/
namespace Go.Proofs.Ytfmlpomnhkjolaa
open Go.RowKit Go.Shelf

/-- What is asked of the function that hands pairs on, none of which ends the loop. -/
def HandsX2 {α : Type} (n gf : Nat) (lb : Array Value) (e1 e2 : α → Value) (zs : List α) (X0 : Nat → Prop) (w : World) : Prop :=
  ∀ (l : Nat) (J : List α → (Nat → Prop) → World → Prop) (X : Nat → Prop) (W : World), (∀ k, X0 k → X k ∧ W.heap[k]? = w.heap[k]?) → Ab J →
    (∀ pre x Y W1, J pre Y W1 → Bd Y W1 → (pre ++ [x]) <+: zs → YieldAt Fence.wide (n - 1) Try.prog l #[e1 x, e2 x] W1 fun e W' =>
      e = .returned (.bool true) ∧ J (pre ++ [x]) Y W' ∧ Keep Y W1 W') → J [] X W → Bd X W →
    CallsIn Fence.wide n Try.prog gf (#[.func (.yield l) #[] #[]] ++ lb) W fun e W' => (∃ v, e = .returned v) ∧ ∃ Y, J zs Y W' ∧ Bd Y W'

set_option maxHeartbeats 1000000 in
theorem range_frame2 {α : Type} {n : Nat} {g : Operand} {p p2 : Tmp} {assign body : Code} {Q : Exit → Act → World → Prop} {a : Act} {w : World} (hn : 1 ≤ n) {gf : Nat} {lb : Array Value}
    (hg : a.eval g = .func (.func gf) #[] lb) (eg : ∀ args w, (callFunc gf args).run Try.prog w = .ok (.enter gf args) w) {e1 e2 : α → Value} {zs : List α} {X0 : Nat → Prop} {w0 : World}
    (hH : HandsX2 (n - 1) gf lb e1 e2 zs X0 w0) (hX0 : ∀ k, X0 k → k < w.heap.size ∧ w.heap[k]? = w0.heap[k]?)
    (I : List α → (Nat → Prop) → World → Prop) (hI : Ab I) (h0 : I [] X0 w) (Ax : α → Act → World → Prop) (hAx : ∀ x a' W l o o', Ax x a' W → w.heap.size ≤ l → W.heap[l]? = some o → o.isCells = false → Ax x a' (W.putObj l o'))
    (hassign : ∀ (l : Nat) (pre : List α) (x : α) (Y : Nat → Prop) (W : World) (K : Act → World → Prop), I pre Y W → Bd Y W → Y l → Y w.heap.size → (∀ a' W', I pre Y W' → Keep Y W W' → Ax x a' W' → K a' W') →
      assign.wpIn (Fence.wide.inRound l) (n - 1 - 1) Try.prog (Exit.then K (fun _ _ _ => False)) { tmps := (#[p, p2].zip #[e1 x, e2 x]).foldl (fun t (p, v) => t.setIfInBounds p v) a.tmps, defers := [] } W)
    (hbody : ∀ (l : Nat) (pre : List α) (x : α) (a' : Act) (Y : Nat → Prop) (W : World), w.heap.size ≤ l → I pre Y W → Bd Y W → Ax x a' W → (pre ++ [x]) <+: zs → body.wpIn (Fence.wide.inRound l) (n - 1 - 1) Try.prog (LeftX I (pre ++ [x]) Y W) a' W)
    (hdone : ∀ (D : Nat) (Y : Nat → Prop) (W : World), w.heap.size ≤ D → I zs Y W → Bd Y W → Y D → W.heap[D]? = some (.deferred (some [])) → Q .normal { a with defers := { target := .collected D, args := #[] } :: a.defers } W) :
    (Code.rangeFunc g #[p, p2] assign body).wpIn Fence.wide n Try.prog Q a w := by
  refine wpIn_rangeFunc fun fn hfn => ?_
  let R : LoopState → Option Code → Loop := fun st pe => { state := st, pending := pe, fn, tmps := a.tmps, params := #[p, p2], assign, body, defers := w.heap.size }
  let V : World := (w.alloc (.deferred (some []))).alloc (.loop (R .ready none))
  have hVl : V.heap[w.heap.size + 1]? = some (.loop (R .ready none)) := by
    have := World.alloc_heap_new (w.alloc (.deferred (some []))) (.loop (R .ready none)); rwa [World.size_alloc] at this
  have hVd : V.heap[w.heap.size]? = some (.deferred (some [])) := (Below.heap_alloc _ _ _ (by simp)).trans (World.alloc_heap_new w _)
  have hVs : V.heap.size = w.heap.size + 2 := by simp [V]
  have hVb : Below w.heap.size w V := ((Below.refl _ w).alloc (Nat.le_refl _) _).alloc (by simp) _
  have hXn : Xn X0 w V = fun k => X0 k ∨ (k = w.heap.size ∨ k = w.heap.size + 1) := by
    funext k
    apply propext
    unfold Xn
    rw [hVs]
    constructor
    · rintro (h | ⟨h1, h2⟩)
      · exact .inl h
      · exact .inr (by omega)
    · rintro (h | h)
      · exact .inl h
      · exact .inr (by omega)
  have hput : ∀ {s : List α} {Y : Nat → Prop} {W : World} {o o' : Obj}, I s (fun k => Y k ∨ (k = w.heap.size ∨ k = w.heap.size + 1)) W → W.heap[w.heap.size + 1]? = some o → I s (fun k => Y k ∨ (k = w.heap.size ∨ k = w.heap.size + 1)) (W.putObj (w.heap.size + 1) o') := by
    intro s Y W o o' hs hl
    have h1 := hI s _ W (W.putObj (w.heap.size + 1) o') hs (Grow.putObj (.inr (.inr rfl)) W o')
    rwa [Xn.none World.putObj_size] at h1
  refine ⟨w.heap.size + 1, [{ target := .collected w.heap.size, args := #[] }], V, { target := .fn (.func gf) lb, args := #[.func (.yield (w.heap.size + 1)) #[] #[]] }, V, gf,
    #[.func (.yield (w.heap.size + 1)) #[] #[]] ++ lb, V, run_enterLoop_outer _ _ _ _ _, ?_, fun _ _ => trivial, ?_, fun _ => hn, ?_⟩
  · simp only [resolve, hg]
    simp [go_sem]
  · simp [invoke, go_sem, eg]
  refine (hH (w.heap.size + 1)
    (fun pre X W => I pre (fun k => X k ∨ (k = w.heap.size ∨ k = w.heap.size + 1)) W ∧ W.heap[w.heap.size + 1]? = some (.loop (R .ready none)) ∧ W.heap[w.heap.size]? = some (.deferred (some [])) ∧ ¬ X w.heap.size ∧ ¬ X (w.heap.size + 1))
    X0 V (fun k hk => ⟨hk, (hVb.block k (hX0 k hk).1).trans (hX0 k hk).2⟩) ?_ ?_
    ⟨by rw [← hXn]; exact hI _ _ _ _ h0 (Grow.of_below hVb _), hVl, hVd, fun h => by have := (hX0 _ h).1; omega, fun h => by have := (hX0 _ h).1; omega⟩ (fun k hk => by have := (hX0 k hk).1; omega)).mono ?_
  · -- what the function's own doings leave
    rintro s X W W' ⟨h1, h2, h3, h4, h5⟩ hg'
    have l2 := (Array.getElem?_eq_some_iff.1 h2).1
    have l3 := (Array.getElem?_eq_some_iff.1 h3).1
    refine ⟨?_, (hg'.block _ l2 h5).trans h2, (hg'.block _ l3 h4).trans h3, ?_, ?_⟩
    · have := hI s _ W W' h1 (hg'.wide (fun k hk => .inl hk))
      rwa [Xn.add (X := X) (fun k => k = w.heap.size ∨ k = w.heap.size + 1)] at this
    · rintro (h | ⟨h, _⟩)
      · exact h4 h
      · omega
    · rintro (h | ⟨h, _⟩)
      · exact h5 h
      · omega
  · -- one round
    rintro pre x Y W1 ⟨hi, hl, hd, n4, n5⟩ hbd hlen
    have l2 := (Array.getElem?_eq_some_iff.1 hl).1
    have l3 := (Array.getElem?_eq_some_iff.1 hd).1
    have hbd2 : Bd (fun k => Y k ∨ (k = w.heap.size ∨ k = w.heap.size + 1)) W1 := by
      rintro k (hk | rfl | rfl)
      · exact hbd k hk
      · exact l3
      · exact l2
    refine ⟨fn, _, assign, body, run_yield (P := Try.prog) (args := #[e1 x, e2 x]) hl rfl, roundIn_of_wpIn hfn (hassign _ pre x _ W1 _ hi hbd2 (.inr (.inr rfl)) (.inr (.inl rfl)) ?_)⟩
    intro a' U hUi hUk hUa
    have hl1 := (hUk.2 _ (.inr (.inr rfl))).trans hl
    have hd1 := (hUk.2 _ (.inr (.inl rfl))).trans hd
    have hlt := (Array.getElem?_eq_some_iff.1 hl1).1
    refine ⟨_, run_beginRound hl1 rfl, ?_⟩
    let Z : World := U.putObj (w.heap.size + 1) (.loop (R .busy none))
    have hl2 : Z.heap[w.heap.size + 1]? = some (.loop (R .busy none)) := World.putObj_heap_same hlt
    have hd2 : Z.heap[w.heap.size]? = some (.deferred (some [])) := (World.putObj_heap_other (by omega)).trans hd1
    have hZs : Z.heap.size = U.heap.size := World.putObj_size
    have hbdZ : Bd (fun k => Y k ∨ (k = w.heap.size ∨ k = w.heap.size + 1)) Z := fun k hk => by
      have := hbd2 k hk
      have := hUk.1
      omega
    refine wpIn_mono (hbody _ pre x a' _ Z (by omega) (hput hUi hl1) hbdZ (hAx _ _ _ _ _ _ hUa (by omega) hl1 rfl) hlen) ?_
    intro e a3 W3 hp
    cases e with
    | normal =>
      obtain ⟨hi3, hk3⟩ := hp
      have hl3 := (hk3.2 _ (.inr (.inr rfl))).trans hl2
      have hd3 := (hk3.2 _ (.inr (.inl rfl))).trans hd2
      refine ⟨_, _, run_endRound none hl3, rfl, ⟨hput hi3 hl3, World.putObj_heap_same (Array.getElem?_eq_some_iff.1 hl3).1, (World.putObj_heap_other (by omega)).trans hd3, n4, n5⟩, ?_, fun k hk => ?_⟩
      · have h1 := hUk.1
        have h3 := hk3.1
        rw [World.putObj_size]
        omega
      · have hne : k ≠ w.heap.size + 1 := fun e => n5 (e ▸ hk)
        exact (World.putObj_heap_other hne).trans ((hk3.2 k (.inl hk)).trans ((World.putObj_heap_other hne).trans (hUk.2 k (.inl hk))))
    | ret => exact hp.elim
    | exit id => exact hp.elim
    | goto t => exact hp.elim
    | panic ch => exact hp.elim
    | outgrown => exact hp.elim
  · -- behind the loop
    rintro e W2 ⟨⟨v, rfl⟩, Y, ⟨hi, hl, hd, n4, n5⟩, hbd⟩
    have l2 := (Array.getElem?_eq_some_iff.1 hl).1
    have l3 := (Array.getElem?_eq_some_iff.1 hd).1
    refine ⟨none, _, run_endLoop (P := Try.prog) hl (by simp [R]), hdone _ _ _ (Nat.le_refl _) (hput hi hl) (fun k hk => ?_) (.inr (.inl rfl)) ((World.putObj_heap_other (by omega)).trans hd)⟩
    rw [World.putObj_size]
    rcases hk with hk | rfl | rfl
    · exact hbd k hk
    · exact l3
    · exact l2
end Go.Proofs.Ytfmlpomnhkjolaa
