/- A parameter that is a slot, opened. -/
import Derived.Test.YtilcondnpoinkaaBase0
import Derived.Test.YtilcondnpoinkaaTSlot
import Derived.Deep.Strs
namespace Go.Proofs.Ytilcondnpoinkaa
open Go.ChangeShapes Go.WideShapes Go.ChangeAt Go.RowKit Go.Joins Go.Deep

theorem u64_nat {n : Int} (h : (Lit.int .u64 n).wf = true) : ∃ m : Nat, n = (m : Int) ∧ m < 18446744073709551616 := by
  simp [Lit.wf] at h
  have h1 : IntKind.u64.min = 0 := by decide
  have h2 : IntKind.u64.max = 18446744073709551615 := by decide
  rw [h1, h2] at h
  exact ⟨n.toNat, by omega, by omega⟩
set_option maxRecDepth 100000 in
theorem open_trust {H : Type} {enc : TypeId × Value → H} {W : World} {base : Nat} {sp : Nat → Bool} {r : Reach} {b0 : Nat} {v : Value} {d : DataW H} {p : List MemPlace}
    (hv : Value.okWide Try.prog W r b0 24 v) (h : DataW.Trod enc Try.prog W base sp true 24 v d p) :
    ∃ (n b : Nat) (k : List UInt8), v = tv n b k ∧ n < 18446744073709551616 ∧ b < 18446744073709551616 ∧ (k.length : Int) ≤ 9223372036854775807 := by
  obtain ⟨cs, rfl, hcs⟩ := okWide_struct Try.underlying24 hv
  obtain ⟨fuel, hf⟩ := h
  have e0 : Try.prog.cellsOf 24 = 3 := by kernel_rfl
  rw [e0] at hcs
  obtain ⟨x, y, z, rfl⟩ : ∃ x y z, cs = #[x, y, z] := by
    obtain ⟨l⟩ := cs
    match l, hcs with
    | [x, y, z], _ => exact ⟨x, y, z, rfl⟩
  obtain ⟨y0, y1, y2, n, _, _, t0, t1, t2⟩ := trod_struct3 Try.underlying24 hf
  have e1 : Try.prog.cellsOf 22 = 1 := by kernel_rfl
  have e2 : Try.prog.cellsOf 9 = 1 := by kernel_rfl
  simp only [e1] at t0 t1
  simp only [e2] at t2
  obtain ⟨n0, c0, _, w0⟩ := DataW.trod_int Try.underlying22 t0
  obtain ⟨n1, c1, _, w1⟩ := DataW.trod_int Try.underlying22 t1
  obtain ⟨s, c2, _, w2⟩ := DataW.trod_string Try.underlying9 t2
  simp [Value.cells] at c0 c1 c2
  obtain ⟨m0, rfl, h0⟩ := u64_nat w0
  obtain ⟨m1, rfl, h1⟩ := u64_nat w1
  obtain ⟨l, rfl, hl⟩ := str_list s
  unfold maxLen at w2
  exact ⟨m0, m1, l, by rw [c0, c1, c2], h0, h1, by omega⟩
end Go.Proofs.Ytilcondnpoinkaa
