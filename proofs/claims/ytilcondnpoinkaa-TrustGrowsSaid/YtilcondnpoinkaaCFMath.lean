/- Fields' bytes, in plain lists: nothing of the program. -/
import Derived.Test.YtilcondnpoinkaaCMath
namespace Go.Proofs.Ytilcondnpoinkaa

/-- A field: is it a text; the number; the text. -/
abbrev Fld := Bool × Nat × List UInt8
/-- A field's bytes. -/
def enc (x : Fld) : List UInt8 := if x.1 = true then low x.2.2.length 2 ++ x.2.2 else low x.2.1 8
/-- Fields' bytes. -/
def encs (L : List Fld) : List UInt8 := L.flatMap enc
/-- A field whose text, if it is one, is not too long. -/
def OkF (x : Fld) : Prop := x.1 = true → x.2.2.length ≤ 4096
/-- A field as Go has it: a number of 64 bits, a text that can be. -/
def NumF (x : Fld) : Prop := x.2.1 ≤ 18446744073709551615 ∧ x.2.2.length ≤ 9223372036854775807

theorem enc_text (n : Nat) (s : List UInt8) : enc (true, n, s) = low s.length 2 ++ s := by simp [enc]
theorem enc_num (n : Nat) (s : List UInt8) : enc (false, n, s) = low n 8 := by simp [enc]
theorem enc_len_text (n : Nat) (s : List UInt8) : (enc (true, n, s)).length = 2 + s.length := by rw [enc_text, List.length_append, low_length]
theorem enc_len_num (n : Nat) (s : List UInt8) : (enc (false, n, s)).length = 8 := by rw [enc_num, low_length]
theorem enc_le {x : Fld} (h : OkF x) : (enc x).length ≤ 4098 := by
  obtain ⟨t, n, s⟩ := x
  cases t
  · rw [enc_len_num]; omega
  · rw [enc_len_text]; have := h rfl; simp only at this; omega
theorem encs_nil : encs [] = [] := rfl
theorem encs_append (L M : List Fld) : encs (L ++ M) = encs L ++ encs M := by simp [encs]
theorem encs_snoc (L : List Fld) (x : Fld) : encs (L ++ [x]) = encs L ++ enc x := by simp [encs]
theorem encs_take (L : List Fld) (k : Nat) (h : k < L.length) : encs (L.take (k + 1)) = encs (L.take k) ++ enc L[k] := by
  rw [← List.take_append_getElem h, encs_snoc]
theorem encs_len (L : List Fld) (h : ∀ x ∈ L, OkF x) : (encs L).length ≤ L.length * 4098 := by
  induction L with
  | nil => simp [encs]
  | cons x L ih =>
    have e : encs (x :: L) = enc x ++ encs L := by simp [encs]
    rw [e, List.length_append, List.length_cons]
    have h1 := enc_le (h x (by simp))
    have h2 := ih (fun y hy => h y (by simp [hy]))
    omega
theorem encs_take_le (L : List Fld) (k : Nat) : (encs (L.take k)).length ≤ (encs L).length := by
  have e : encs L = encs (L.take k) ++ encs (L.drop k) := by rw [← encs_append, List.take_append_drop]
  rw [e, List.length_append]
  omega
end Go.Proofs.Ytilcondnpoinkaa
