/- What is joined is split as it was, and what is split, joined, is those bytes: in plain lists. -/
import Derived.Test.YtocipkoheboalaaCSplits
namespace Go.Proofs.Ytocipkoheboalaa

/-- A field, with nothing in what its kind does not tell. -/
def norm (x : Fld) : Fld := if x.1 = true then (true, 0, x.2.2) else (false, x.2.1, [])
theorem norm_same (x : Fld) : SameF (norm x) x := by
  obtain ⟨t, n, s⟩ := x
  cases t <;> simp [norm, SameF]

theorem part_mid (a b c : List UInt8) : part (a ++ b ++ c) a.length b.length = b := by
  simp [part, List.append_assoc]
theorem part_add (s : List UInt8) (n i j : Nat) : part s n (i + j) = part s n i ++ part s (n + i) j := by
  unfold part
  rw [List.take_add, List.drop_drop]
theorem part_at (pre r : List UInt8) (k : Nat) : part (pre ++ r) pre.length k = r.take k := by
  simp [part]
theorem part_at_plus (pre r : List UInt8) (i k : Nat) : part (pre ++ r) (pre.length + i) k = (r.drop i).take k := by
  unfold part
  rw [List.drop_append_of_le_length_or pre r i]
where
  List.drop_append_of_le_length_or (pre r : List UInt8) (i : Nat) : (pre ++ r).drop (pre.length + i) = r.drop i := by
    rw [List.drop_append]
    simp

theorem fsz_enc (pre rest : List UInt8) (x : Fld) (ho : OkF x) (hn : NumF x) : fsz (pre ++ (enc x ++ rest)) pre.length (kindOf x) = some (enc x).length ∧ fldAt (pre ++ (enc x ++ rest)) pre.length (kindOf x) = norm x := by
  obtain ⟨t, n, s⟩ := x
  have hn1 : n ≤ 18446744073709551615 := hn.1
  cases t
  · have e : part (pre ++ (enc (false, n, s) ++ rest)) pre.length 8 = low n 8 := by
      rw [part_at, enc_num, List.take_append_of_le_length (by simp [low_length]), List.take_of_length_le (by simp [low_length])]
    constructor
    · rw [enc_len_num]
      show (if _ then some 8 else none) = some 8
      rw [if_pos (by simp [enc_num, low_length])]
    · show (false, val (part (pre ++ (enc (false, n, s) ++ rest)) pre.length 8), []) = _
      rw [e, val_low, Nat.mod_eq_of_lt (by omega)]
      rfl
  · have hs : s.length ≤ 4096 := ho rfl
    have e : part (pre ++ (enc (true, n, s) ++ rest)) pre.length 2 = low s.length 2 := by
      rw [part_at, enc_text, List.append_assoc, List.take_append_of_le_length (by simp [low_length]), List.take_of_length_le (by simp [low_length])]
    have hv : val (low s.length 2) = s.length := by rw [val_low, Nat.mod_eq_of_lt (by omega)]
    have e2 : part (pre ++ (enc (true, n, s) ++ rest)) (pre.length + 2) s.length = s := by
      rw [part_at_plus, enc_text, List.append_assoc, List.drop_append_of_le_length (by simp [low_length]), List.drop_of_length_le (by simp [low_length])]
      simp
    constructor
    · rw [enc_len_text]
      show (if _ ∧ _ ∧ _ then some _ else none) = _
      rw [e, hv, if_pos (by simp [enc_len_text]; omega)]
    · show (true, 0, part (pre ++ (enc (true, n, s) ++ rest)) (pre.length + 2) (val (part (pre ++ (enc (true, n, s) ++ rest)) pre.length 2))) = _
      rw [e, hv, e2]
      rfl

theorem split_join (L : List Fld) : ∀ (pre : List UInt8) (acc : List Fld), (∀ x ∈ L, OkF x) → (∀ x ∈ L, NumF x) → splitGo (pre ++ encs L) (kindsOf L) pre.length acc = (acc ++ L.map norm, 0, 0) := by
  induction L with
  | nil => intro pre acc _ _; simp [encs, kindsOf, splitGo]
  | cons x L ih =>
    intro pre acc ho hn
    have e : encs (x :: L) = enc x ++ encs L := by simp [encs]
    have ek : kindsOf (x :: L) = kindOf x :: kindsOf L := rfl
    obtain ⟨h1, h2⟩ := fsz_enc pre (encs L) x (ho x (by simp)) (hn x (by simp))
    rw [e, ek, splitGo, h1, h2]
    have := ih (pre ++ enc x) (acc ++ [norm x]) (fun y hy => ho y (by simp [hy])) (fun y hy => hn y (by simp [hy]))
    rw [List.length_append, List.append_assoc] at this
    simp only [List.map_cons]
    rw [this]
    simp

theorem kind_of (x : Fld) : Kind (kindOf x) := by
  obtain ⟨t, n, s⟩ := x
  cases t <;> simp [kindOf, Kind]
theorem kinds_kind (L : List Fld) : ∀ k ∈ kindsOf L, Kind k := fun k hk => by
  unfold kindsOf at hk
  obtain ⟨x, _, rfl⟩ := List.mem_map.1 hk
  exact kind_of x

/-- What a field that bytes tell is like. -/
theorem fld_facts (s : List UInt8) (n z : Nat) (k : UInt8) (hk : Kind k) (hz : fsz s n k = some z) : n + z ≤ s.length ∧ enc (fldAt s n k) = part s n z ∧ kindOf (fldAt s n k) = k ∧ OkF (fldAt s n k) ∧ NumF (fldAt s n k) := by
  rcases hk with rfl | rfl
  · have h8 : n + 8 ≤ s.length ∧ z = 8 := by
      simp [fsz] at hz
      omega
    obtain ⟨h8, rfl⟩ := h8
    have hf : fldAt s n 110 = (false, val (part s n 8), []) := rfl
    rw [hf]
    have hl := part_len s n 8 h8
    refine ⟨h8, ?_, rfl, fun h => by simp at h, ?_, by simp⟩
    · rw [enc_num]
      have := low_val (part s n 8)
      rw [hl] at this
      exact this
    · have := val_lt (part s n 8)
      rw [hl] at this
      simp only
      omega
  · have h8 : n + 2 ≤ s.length ∧ val (part s n 2) ≤ 4096 ∧ n + 2 + val (part s n 2) ≤ s.length ∧ z = 2 + val (part s n 2) := by
      simp [fsz] at hz
      omega
    obtain ⟨g1, g2, g3, rfl⟩ := h8
    have hf : fldAt s n 116 = (true, 0, part s (n + 2) (val (part s n 2))) := rfl
    rw [hf]
    have hl := part_len s n 2 g1
    have hl2 := part_len s (n + 2) (val (part s n 2)) g3
    refine ⟨by omega, ?_, rfl, fun _ => by rw [hl2]; exact g2, by simp, by simp only; rw [hl2]; omega⟩
    rw [enc_text, hl2]
    have := low_val (part s n 2)
    rw [hl] at this
    rw [this, part_add]

/-- What Split's loop has done: the fields' bytes are those ahead, their kinds those done. -/
theorem split_facts (s ks : List UInt8) : ∀ (n : Nat) (acc : List Fld), (∀ k ∈ ks, Kind k) → n ≤ s.length → encs acc = s.take n → (∀ x ∈ acc, OkF x) → (∀ x ∈ acc, NumF x) →
    (∃ M, splitGo s ks n acc = (M, 0, 0) ∧ encs M = s ∧ kindsOf M = kindsOf acc ++ ks ∧ (∀ x ∈ M, OkF x) ∧ (∀ x ∈ M, NumF x)) ∨ (∃ a, splitGo s ks n acc = ([], a, 10) ∧ a ≤ s.length) := by
  induction ks with
  | nil =>
    intro n acc _ hn he ho hm
    rw [splitGo]
    by_cases h : n < s.length
    · rw [if_pos h]
      exact .inr ⟨n, rfl, hn⟩
    · rw [if_neg h]
      refine .inl ⟨acc, rfl, ?_, by simp, ho, hm⟩
      rw [he, List.take_of_length_le (by omega)]
  | cons k ks ih =>
    intro n acc hk hn he ho hm
    rw [splitGo]
    cases hf : fsz s n k with
    | none => exact .inr ⟨n, rfl, hn⟩
    | some z =>
      obtain ⟨h1, h2, h3, h4, h5⟩ := fld_facts s n z k (hk k (by simp)) hf
      have hall : ∀ {P : Fld → Prop}, (∀ x ∈ acc, P x) → P (fldAt s n k) → ∀ x ∈ acc ++ [fldAt s n k], P x := fun ha hb x hx => by
        rcases List.mem_append.1 hx with h | h
        · exact ha x h
        · rw [List.mem_singleton.1 h]; exact hb
      have := ih (n + z) (acc ++ [fldAt s n k]) (fun y hy => hk y (by simp [hy])) h1 (by
        rw [encs_snoc, he, h2]
        unfold part
        rw [List.take_add]) (hall ho h4) (hall hm h5)
      rcases this with ⟨M, e1, e2, e3, e4, e5⟩ | ⟨a, e1, e2⟩
      · refine .inl ⟨M, e1, e2, ?_, e4, e5⟩
        rw [e3]
        simp [kindsOf, h3]
      · exact .inr ⟨a, e1, e2⟩
end Go.Proofs.Ytocipkoheboalaa
