/- A parameter that is a map, opened, and what few leaves of it. -/
import Derived.Test.YthknelpcdoebiaaBase0
import Derived.Test.YthknelpcdoebiaaZLike
import Derived.Test.YthknelpcdoebiaaU64
import Derived.Deep.Strs
import Derived.ChangeSlices
namespace Go.Proofs.Ythknelpcdoebiaa
open Go.ChangeShapes Go.WideShapes Go.ChangeAt Go.RowKit Go.Joins Go.Deep

/-- A map that came in: as many words as there are. -/
structure ZIn (w : World) (N : Int) (A : Option Addr) (n c : Nat) (L : List Nat) (F : Nat) : Prop where
  row : ZRow w A L
  len : L.length = n
  nil : A = none → c = 0
  cap : n ≤ c
  lt : ∀ x ∈ L, x < Z64
  flt : F < Z64
  int : -9223372036854775808 ≤ N ∧ N ≤ 9223372036854775807
/-- What few leaves of it. -/
theorem ZIn.few {w : World} {N : Int} {A : Option Addr} {n c : Nat} {L : List Nat} {F : Nat} (h : ZIn w N A n c L F) : ZM w A (min n 70) c (L.take 70) F :=
  ⟨h.row.take 70, by rw [List.length_take, h.len, Nat.min_comm], h.nil, Nat.min_le_right _ _, Nat.le_trans (Nat.min_le_left _ _) h.cap, fun x hx => h.lt x (List.mem_of_mem_take hx), h.flt⟩

set_option maxRecDepth 100000 in
theorem open_words_in {H : Type} {enc : TypeId × Value → H} {W : World} {base fuel : Nat} {sp : Nat → Bool} {x : Value} {y : DataW H × List MemPlace}
    (hf : DataW.trod enc Try.prog W base sp true fuel 22 [x] = some y) :
    ∃ (A : Option Addr) (cap : Nat) (L : List Nat), x = .slice A L.length cap ∧ L.length ≤ cap ∧ ZRow W A L ∧ (A = none → cap = 0) ∧ ∀ x ∈ L, x < Z64 := by
  rcases open_ints Try.underlying22 Try.underlying23 (by kernel_rfl) hf with ⟨hcs, _⟩ | ⟨a, len, cap, zs, hcs, _, hle, _, hm, _, hcell, hwf⟩
  · exact ⟨none, 0, [], by simpa using hcs, Nat.le_refl _, ZRow.nil _ _, fun _ => rfl, by simp⟩
  · have hlm : len ≤ zs.length := by rw [hm]; split <;> omega
    have hLl : ((zs.take len).map Int.toNat).length = len := by simp; omega
    have hnn : ∀ j, j < len → 0 ≤ zs.getD j 0 ∧ zs.getD j 0 < 18446744073709551616 := fun j hj => by
      have hin : zs.getD j 0 ∈ zs := by
        have e : zs.getD j 0 = zs[j]'(by omega) := by simp [List.getD, show j < zs.length by omega]
        rw [e]; exact List.getElem_mem _
      obtain ⟨m, e, hlt⟩ := u64_nat (hwf _ hin)
      rw [e]; omega
    have hat : ∀ j, j < len → ((zs.take len).map Int.toNat).getD j 0 = (zs.getD j 0).toNat := fun j hj => by
      have h2 : j < zs.length := by omega
      simp [List.getD, hj, h2]
    refine ⟨some a, cap, (zs.take len).map Int.toNat, by rw [hLl]; simpa using hcs, by omega, fun j hj => ?_, (fun e => by cases e), fun x hx => ?_⟩
    · rw [hLl] at hj
      have hc := hcell j (by omega)
      obtain ⟨g, off, s⟩ := a
      have hs : s = none := by
        have := hcell 0 (by omega)
        simpa [Addr.add] using World.cell?_spot this
      subst hs
      rw [Go.WideShapes.add_plain] at hc
      refine ⟨g, off, rfl, ?_⟩
      rw [hat j hj, hc]
      have := hnn j hj
      show some (Value.int .u64 _) = some (Value.int .u64 _)
      rw [Int.toNat_of_nonneg this.1]
    · obtain ⟨j, hj, rfl⟩ := List.getElem_of_mem hx
      rw [hLl] at hj
      have e : ((zs.take len).map Int.toNat)[j]'(by rw [hLl]; exact hj) = (zs.getD j 0).toNat := by
        rw [← hat j hj]
        simp [List.getD, hj, show j < zs.length by omega]
      rw [e]
      have := hnn j hj
      show _ < 18446744073709551616
      omega

set_option maxRecDepth 100000 in
/-- A map that came in. -/
theorem open_bits {H : Type} {enc : TypeId × Value → H} {W : World} {base : Nat} {sp : Nat → Bool} {r : Reach} {b0 : Nat} {v : Value} {d : DataW H} {p : List MemPlace}
    (hv : Value.okWide Try.prog W r b0 25 v) (h : DataW.Trod enc Try.prog W base sp true 25 v d p) :
    ∃ (N : Int) (A : Option Addr) (n c F : Nat) (L : List Nat), v = zbv N A n c F ∧ ZIn W N A n c L F := by
  obtain ⟨cs, rfl, hcs⟩ := okWide_struct Try.underlying25 hv
  obtain ⟨fuel, hf⟩ := h
  have e0 : Try.prog.cellsOf 25 = 3 := by kernel_rfl
  rw [e0] at hcs
  obtain ⟨x, y, z, rfl⟩ : ∃ x y z, cs = #[x, y, z] := by
    obtain ⟨l⟩ := cs
    match l, hcs with
    | [x, y, z], _ => exact ⟨x, y, z, rfl⟩
  obtain ⟨y0, y1, y2, n, _, _, t0, t1, t2⟩ := trod_struct3 Try.underlying25 hf
  have e1 : Try.prog.cellsOf 3 = 1 := by kernel_rfl
  have e2 : Try.prog.cellsOf 22 = 1 := by kernel_rfl
  have e3 : Try.prog.cellsOf 23 = 1 := by kernel_rfl
  simp only [e1] at t0
  simp only [e2] at t1
  simp only [e3] at t2
  obtain ⟨n0, c0, _, w0⟩ := DataW.trod_int Try.underlying3 t0
  obtain ⟨A, cap, L, rfl, h1, h2, h3, h4⟩ := open_words_in (by simpa [Value.cells] using t1)
  obtain ⟨n2, c2, _, w2⟩ := DataW.trod_int Try.underlying23 t2
  simp [Value.cells] at c0 c2
  obtain ⟨m2, rfl, hm2⟩ := u64_nat w2
  exact ⟨n0, A, L.length, cap, m2, L, by rw [c0, c2], ⟨h2, rfl, h3, h1, h4, hm2, i64_bounds w0⟩⟩
end Go.Proofs.Ythknelpcdoebiaa
