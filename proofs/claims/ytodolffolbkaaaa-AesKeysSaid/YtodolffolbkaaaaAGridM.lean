/- A block's columns, boxed, mixed, and with a key's: in plain lists. -/
import Derived.Test.YtodolffolbkaaaaAGrid
namespace Go.Proofs.Ytodolffolbkaaaa

theorem col_of {F : List UInt8} (c : Nat) : colG F c = [ub F (c * 4), ub F (c * 4 + 1), ub F (c * 4 + 2), ub F (c * 4 + 3)] := by rw [colG_four, Nat.mul_comm]
theorem four_of {L N : List UInt8} {c : Nat} (hl : L.length = 4) (h : ∀ r, r < 4 → ub L r = ub N (c * 4 + r)) : L = [ub N (c * 4), ub N (c * 4 + 1), ub N (c * 4 + 2), ub N (c * 4 + 3)] := by
  obtain ⟨a, b, d, e, rfl⟩ := four_list hl
  have h0 := h 0 (by omega)
  have h1 := h 1 (by omega)
  have h2 := h 2 (by omega)
  have h3 := h 3 (by omega)
  rw [← h1, ← h2, ← h3, show c * 4 = c * 4 + 0 by omega, ← h0]
  rfl
theorem mixG_col (G : List UInt8) (c : Nat) (hc : c < 4) : mixW [ub G (c * 4), ub G (c * 4 + 1), ub G (c * 4 + 2), ub G (c * 4 + 3)] = [ub (mixG G) (c * 4), ub (mixG G) (c * 4 + 1), ub (mixG G) (c * 4 + 2), ub (mixG G) (c * 4 + 3)] := by
  rw [← col_of]
  refine four_of (tab_len _ _) fun r hr => ?_
  unfold mixG
  rw [ub_tab _ (by omega), show (c * 4 + r) / 4 = c by omega, show (c * 4 + r) % 4 = r by omega]
theorem boxG_col (G : List UInt8) (c : Nat) (hc : c < 4) : boxW [ub G (c * 4), ub G (c * 4 + 1), ub G (c * 4 + 2), ub G (c * 4 + 3)] = [ub (boxG G) (c * 4), ub (boxG G) (c * 4 + 1), ub (boxG G) (c * 4 + 2), ub (boxG G) (c * 4 + 3)] := by
  rw [← col_of]
  refine four_of (tab_len _ _) fun r hr => ?_
  unfold boxG boxW
  rw [ub_tab _ hr, ub_tab _ (by omega), ub_colG _ _ hr, Nat.mul_comm]
theorem keyG_col (G K : List UInt8) (c : Nat) (hc : c < 4) : xorW [ub G (c * 4), ub G (c * 4 + 1), ub G (c * 4 + 2), ub G (c * 4 + 3)] [ub K (c * 4), ub K (c * 4 + 1), ub K (c * 4 + 2), ub K (c * 4 + 3)] = [ub (keyG G K) (c * 4), ub (keyG G K) (c * 4 + 1), ub (keyG G K) (c * 4 + 2), ub (keyG G K) (c * 4 + 3)] := by
  rw [← col_of, ← col_of]
  refine four_of (tab_len _ _) fun r hr => ?_
  unfold keyG xorW
  rw [ub_tab _ hr, ub_tab _ (by omega), ub_colG _ _ hr, ub_colG _ _ hr, Nat.mul_comm]
open Go.RowKit in
/-- A whole array stored, as one step of a region that draws. -/
theorem step_store_mid {P : Program} {ops : Array Oper} {o : Oper} {a : Act} {w : World} {K : Act → World → Prop} {Q : Exit → Act → World → Prop} {E : Prop} (hg : o.guard = none) (ty : TypeId) (x y : Operand) (ho : o.op = .store ty x y)
    (b off : Nat) (cells : Array Value) (hx : a.eval x = .pointer (some ⟨b, off, none⟩)) (hy : a.eval y = .agg cells)
    (ht : w.there b off cells.size) (hi : (P.info? ty).map (·.size) = some cells.size) (h1 : cells.all (·.oneCell') = true)
    (h : K (a.put o.dst undef) (w.setCells b off cells.toList)) : if Region.wanted o (yielded ops a.tmps) = true then Oper.wp P o a w K Q else E := by
  rw [if_pos (by simp [Region.wanted, hg])]
  exact wp_store_mid ty x y ho b off cells hx hy ht hi h1 h
/-- A round's cells: its key, and the boxes. -/
def rnd (K : List UInt8) (gb : Nat) : Array Value := (K.map uv ++ [Value.slice (some ⟨gb, 0, none⟩) 256 256]).toArray
theorem rnd_box {K : List UInt8} (gb : Nat) (h : K.length = 16) : (rnd K gb)[16]? = some (.slice (some ⟨gb, 0, none⟩) 256 256) := by simp [rnd, h]
theorem rnd_key {K : List UInt8} (gb : Nat) (h : K.length = 16) {i : Nat} (hi : i < 16) : (rnd K gb)[i]? = some (uv (ub K i)) := by
  rw [ub_at (by omega)]
  unfold rnd
  rw [List.getElem?_toArray, List.getElem?_append_left (by rw [List.length_map, h]; exact hi)]
  simp [h, hi]
end Go.Proofs.Ytodolffolbkaaaa
