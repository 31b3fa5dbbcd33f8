/- A row appended to one that the call made; a row's beginning. Nothing of any function. -/
import Derived.Test.YtnehodipblabbaaQRow
import Derived.Lib.AppendZeros
import Derived.BigFrame
namespace Go.Proofs.Ytnehodipblabbaa
open Go.RowKit

/-- Nothing is appended. -/
theorem qappend_none (W : World) (ty : TypeId) (A B : Option Addr) (n c d : Nat) (h : n ≤ c) :
    (Builtin.append_ #[22, 22] ty #[.slice A n c, .slice B 0 d]).run Try.prog W = .ok (.slice A n c) W := by
  obtain ⟨ti, hi0, hz0, hz1, hz2⟩ := info_parts infoS
  cases A <;> cases B <;> simp [Builtin.append_, run_underlying Try.underlying22, sizeOf, typeInfo, hi0, h, Builtin.lenOf, Builtin.firstCells, loadCells, loadCellsFrom, storeCells]
/-- A row that can be read, appended to one that the call made. -/
theorem qappend_row {W : World} {base n c d m : Nat} {A B : Option Addr} {xs : List Value} {X : List (List UInt8)} (ho : W.ownsRow base 9 1 (.slice A n c) n xs) (hs : SR W B X) (hm : X.length = m) (hn : n + m ≤ 65536) (hb : base ≤ W.heap.size) :
    ∃ A' c' W', (Builtin.append_ #[22, 22] 22 #[.slice A n c, .slice B m d]).run Try.prog W = .ok (.slice A' (n + m) c') W' ∧ W'.ownsRow base 9 1 (.slice A' (n + m) c') (n + m) (xs ++ X.map sv) ∧ W.grownBy W' (Value.slice A n c).ownBlock := by
  obtain ⟨ti, hi0, hz0, hz1, hz2⟩ := info_parts infoS
  by_cases h0 : X = []
  · subst h0
    obtain rfl : m = 0 := by rw [← hm]; rfl
    have hnc : n ≤ c := by
      obtain ⟨A', c', e, hh⟩ := own_form ho
      injection e with _ _ e3
      subst e3
      rcases hh with ⟨_, h1, h2⟩ | ⟨_, _, h1, _⟩ <;> omega
    exact ⟨A, c, W, qappend_none W _ A B n c d hnc, by simpa using ho, ⟨rfl, rfl, rfl, Nat.le_refl _, fun _ _ _ => rfl⟩⟩
  · have hpos : 0 < X.length := List.length_pos_iff.2 h0
    obtain ⟨g, off, rfl, _⟩ := hs 0 hpos
    have hnews : ∀ (i : Nat) (u : Value), (X.map sv)[i]? = some u → W.cell? ((⟨g, off, none⟩ : Addr).add i) = some u := fun i u hu => by
      have hi : i < X.length := by
        have := (List.getElem?_eq_some_iff.1 hu).1
        simpa using this
      obtain ⟨g', off', e, hc⟩ := hs i hi
      obtain ⟨rfl, rfl⟩ : g = g' ∧ off = off' := by injection e with e; injection e with e1 e2; exact ⟨e1, e2⟩
      rw [svs_at X i hi] at hu
      cases hu
      have e9 : (⟨g, off, none⟩ : Addr).add i = ⟨g, off + i, none⟩ := by cases i <;> simp [Addr.add]
      rw [e9]
      exact hc
    obtain ⟨v', w', hr, h2, h3, h4⟩ := run_append_own (P := Try.prog) W base 22 22 9 ti (.string ⟨#[]⟩) 1 16 Try.underlying22 hi0 hz0 hz1 hz2 rfl (by decide) (.slice A n c) n xs ho ⟨g, off, none⟩ m d (X.map sv) (by simp [hm]) hnews (by simp [Value.oneCell']) (by unfold maxLen; omega) (by omega) hb
    obtain ⟨A', c', rfl, _⟩ := own_form h2
    exact ⟨A', c', w', hr, h2, h3⟩
/-- An append whose run is known, behind a guard that says yes. -/
theorem qlist_append_run {P : Program} (w : World) {ops : Array Oper} {rest : List Oper} {o : Oper} {a : Act} {Q : Exit → Act → World → Prop} (hw : Region.wanted o (yielded ops a.tmps) = true) (s x : Operand) (t tn : TypeId)
    (ho : o.op = .call { callee := .builtin .append, args := #[s, x], argTypes := #[t, tn] }) (vs vx : Value) (hs : a.eval s = vs) (hx : a.eval x = vx)
    (v' : Value) (w' : World) (hr : (Builtin.append_ #[t, tn] o.type #[vs, vx]).run P w = .ok v' w') (h : wpList P ops Q rest (a.put o.dst v') w') : wpList P ops Q (o :: rest) a w :=
  BigFrame.wpList_want hw fun _ hK => Lib.wp_append_run w s x t tn ho vs vx hs hx v' w' hr (hK _ _ h)
theorem qcut_run (A : Option Addr) (len cap m : Nat) (hm : m ≤ cap) (W : World) : (Instr.slice 22 (.slice A len cap) none (some (.int .i64 (m : Int))) none).run Try.prog W = .ok (.slice A m cap) W := by
  obtain ⟨i, hi⟩ : ∃ i, Try.prog.info? 9 = some i := Option.isSome_iff_exists.1 (by kernel_rfl)
  have hb : (Instr.sliceBounds true len cap none (some (.int .i64 (m : Int))) none).run Try.prog W = .ok (0, m, cap) W := by
    have h1 : (0 : Int) ≤ (m : Int) ∧ (m : Int) ≤ (cap : Int) := by omega
    simp [Instr.sliceBounds, Instr.sliceBound, asIntOf, h1]
    omega
  have hA : (if cap = 0 then A else A.map fun x => x.add (0 * i.size)) = A := by
    split
    · rfl
    · cases A <;> simp [Addr.add]
  simp [Instr.slice, run_underlying (P := Try.prog) (w := W) Try.underlying22, hb, sizeOf, typeInfo, hi]
  simpa using hA
end Go.Proofs.Ytnehodipblabbaa
