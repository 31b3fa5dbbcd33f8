/- Texts of this seat, one behind the other: KRep. -/
import Derived.Test.YtbecambkjmheiaaQ01
import Derived.Test.YtbecambkjmheiaaQ04
/- The contract of strings.Repeat of a byte 0. -/
namespace Go.Proofs.Ytbecambkjmheiaa
open Go.RowKit

theorem rep_zeros (n : Nat) : Lib.repeatL [0] n = List.replicate n 0 := by
  induction n with
  | zero => rfl
  | succ n ih => rw [Lib.repeatL, ih]; rfl
theorem rep_any (n : Nat) (w : World) (h : n ≤ 5000) : Calls Try.prog 15 #[.string ⟨#[0]⟩, .int .i64 (n : Int)] w fun e w' => e = .returned (.string ⟨(List.replicate n (0 : UInt8)).toArray⟩) ∧ Below w.heap.size w w' := by
  have := Go.Proofs.Any.strings_Repeat repLays105 repLaysExtra ⟨#[0]⟩ n w (by omega) (by rw [show (⟨#[0]⟩ : ByteArray).size = 1 from rfl, Nat.one_mul]; omega)
  rw [show (⟨#[0]⟩ : ByteArray).data.toList = [0] from rfl, rep_zeros] at this
  exact this
end Go.Proofs.Ytbecambkjmheiaa
