/- Texts of this seat, one behind the other: NInsG, NDel, NRep, NPut. -/
import Derived.Test.YtbecambkjmheiaaQ03
import Derived.Test.YtbecambkjmheiaaQ13
/- slices.Insert over a row of cells that the call owns: ahead of others, without room. -/
namespace Go.Proofs.Ytbecambkjmheiaa
open Go.RowKit Go.Lib

set_option maxHeartbeats 4000000 in
set_option maxRecDepth 100000 in
/-- Ahead of others, without room. -/
theorem nins_grow (A : Option Addr) (n c i vb m vc base : Nat) (L V : List CL) (w : World) (ho : NO w base (.slice A n c) n L) (hV : Blk w vb 45 (ccells V).toArray) (hm : V.length = m) (h0 : 0 < m) (hn : n + m ≤ 4096) (hi : i < n) (hroom : c < n + m) (hb : base ≤ w.heap.size) :
    Calls Try.prog 76 #[.slice A n c, .int .i64 (i : Int), .slice (some ⟨vb, 0, none⟩) m vc] w fun e w' => ∃ v', e = .returned v' ∧ NStep w w' base (.slice A n c) v' (L.take i ++ V ++ L.drop i) := by
  have hln := no_len ho
  rcases no_cur ho with ⟨_, h1, _, _⟩ | ⟨g, R, rfl, hbg, hB, hnc, hcm, hR⟩
  · omega
  obtain ⟨ti, hi0, hz0, hz1, hz2⟩ := info_parts infoN
  have hX : (ccells (L.take i)).length = i * 3 := by rw [ccells_len, List.length_take, hln]; omega
  have hY : (ccells (L.drop i)).length = (n - i) * 3 := by rw [ccells_len, List.length_drop, hln]
  have hVl : (ccells V).length = m * 3 := by rw [ccells_len, hm]
  have hcur : ccells L ++ R = ccells (L.take i) ++ (ccells (L.drop i) ++ R) := by rw [← List.append_assoc, ← ccells_more, List.take_append_drop]
  rw [hcur] at hB
  obtain ⟨z, hz⟩ : ∃ z : Value, z = .agg #[.int .u64 0, .int .i64 0, .string ⟨#[]⟩] := ⟨_, rfl⟩
  have hzc : z.cells.size = 3 := by rw [hz]; rfl
  have hap0 := fun ty => appendZ_grow (P := Try.prog) w 22 3 ty 45 ti _ .i64 .i64 Try.underlying22 Try.underlying3 hi0 hz0 ⟨g, 0, none⟩ i c (ccells (L.take i)) (by rw [hz1, hX]) (fun j v hj => by
      rw [Addr.add_lit, Nat.zero_add, hB.cell, List.getElem?_toArray, List.getElem?_append_left (List.getElem?_eq_some_iff.1 hj).1]
      exact hj) (n + m - i) (by omega) (by omega) (by omega) (by omega) (by omega)
  rw [← hz] at hap0
  rw [show i + (n + m - i) = n + m by omega] at hap0
  obtain ⟨C, hC⟩ : ∃ C, grownCap w (n + m) c 45 = C := ⟨_, rfl⟩
  have hC1 : n + m ≤ C := by rw [← hC]; exact grownCap_ge _ _ _ _
  have hC2 : C ≤ maxLen := by rw [← hC]; exact grownCap_le_maxLen _ _ _ _ (by unfold maxLen; omega)
  rw [hC] at hap0
  obtain ⟨Z, hZ⟩ : ∃ Z, Z = (Builtin.zeroCells z.cells (n + m - i)).toList ++ (Builtin.zeroCells z.cells (C - (n + m))).toList := ⟨_, rfl⟩
  have hZl : Z.length = (C - i) * 3 := by rw [hZ]; simp [zeroCells_len, hzc]; omega
  obtain ⟨W1, hW1⟩ : ∃ W1, W1 = w.drew.alloc (.cells (ccells (L.take i) ++ Z).toArray 45) := ⟨_, rfl⟩
  have hap : ∀ ty, (Builtin.append_ #[22, 3] ty #[.slice (some ⟨g, 0, none⟩) i c, .int .i64 ((n : Int) + (m : Int) - (i : Int))]).run Try.prog w = .ok (.slice (some ⟨w.heap.size, 0, none⟩) (n + m) C) W1 := fun ty => by
    have h9 := hap0 ty
    rw [show ((n + m - i : Nat) : Int) = (n : Int) + (m : Int) - (i : Int) by omega] at h9
    rw [h9, hW1, hZ]
    congr 3
    simp
  clear hap0
  have hk : w.heap.size = w.heap.size := rfl
  obtain ⟨k, hk⟩ : ∃ k, w.heap.size = k := ⟨_, rfl⟩
  have hB1 : Blk W1 k 45 (ccells (L.take i) ++ Z).toArray := by rw [hW1, ← hk]; exact Blk.new w.drew _ _
  have hV1 : Blk W1 vb 45 (ccells V).toArray := by rw [hW1]; exact (Blk.drew hV).alloc _
  have hS1 : Blk W1 g 45 (ccells (L.take i) ++ (ccells (L.drop i) ++ R)).toArray := by rw [hW1]; exact (Blk.drew hB).alloc _
  have hG1 : w.grownBy W1 (some g) := by rw [hW1]; exact grownBy_drew (World.grownBy_alloc _ _ _)
  have hvk : vb ≠ k := by have := hV.lt; omega
  have hgk : g ≠ k := by have := hB.lt; omega
  obtain ⟨W2, hW2⟩ : ∃ W2, W2 = W1.setRow k (splice (ccells (L.take i) ++ Z) (i * 3) (ccells V)).toArray := ⟨_, rfl⟩
  have hcp1 : ∀ ty dc, (Builtin.copy_ #[22, 22] ty #[.slice (some ⟨k, i * 3, none⟩) (n + m - i) dc, .slice (some ⟨vb, 0, none⟩) m vc]).run Try.prog W1 = .ok (goInt m) W2 := fun ty dc => by
    have := copyN_row (P := Try.prog) W1 22 22 ty 45 3 m k (i * 3) (n + m - i) dc ⟨vb, 0, none⟩ m vc (ccells (L.take i) ++ Z).toArray 45 (ccells V) Try.underlying22 sizeNz hB1 (by simp only [Nat.min_def]; split <;> omega) hVl
      (fun j v hj => by rw [Addr.add_lit, Nat.zero_add, hV1.cell, List.getElem?_toArray]; exact hj) (by simp only [List.size_toArray, List.length_append, hX, hZl, hVl]; omega) (ccells_one _)
    rw [this, hW2]
  have hB2 : Blk W2 k 45 (splice (ccells (L.take i) ++ Z) (i * 3) (ccells V)).toArray := by rw [hW2]; exact blk_setRow hB1 _
  have hS2 : Blk W2 g 45 (ccells (L.take i) ++ (ccells (L.drop i) ++ R)).toArray := by rw [hW2]; exact blk_setRow_far hS1 hgk _
  have hG2 : w.grownBy W2 (some g) := ⟨by rw [hW2]; exact hG1.os, by rw [hW2]; exact hG1.tape, by rw [hW2]; exact hG1.output, by rw [hW2]; simpa using hG1.size, fun j h1 h2 => by
    rw [hW2, setRow_other W1 k j _ (by omega)]
    exact hG1.block j h1 h2⟩
  have hl2 : (splice (ccells (L.take i) ++ Z) (i * 3) (ccells V)).length = C * 3 := by rw [length_splice _ _ _ (by simp only [List.length_append, hX, hZl, hVl]; omega)]; simp only [List.length_append, hX, hZl]; omega
  have hsp := nins_fill (Z := Z) (Y := ccells (L.drop i)) hX hVl
  obtain ⟨R', hR'⟩ : ∃ R', (Z.drop (m * 3)).drop (ccells (L.drop i)).length = R' := ⟨_, rfl⟩
  rw [hR'] at hsp
  have hR'l : R'.length = (C - (n + m)) * 3 := by rw [← hR']; simp only [List.length_drop, hZl, hY]; omega
  have hcp2 : ∀ ty dc sc, (Builtin.copy_ #[22, 22] ty #[.slice (some ⟨k, (i + m) * 3, none⟩) (n + m - (i + m)) dc, .slice (some ⟨g, i * 3, none⟩) (n - i) sc]).run Try.prog W2.drew = .ok (goInt ((n - i : Nat) : Int)) (W2.drew.setRow k (ccells (L.take i) ++ (ccells V ++ (ccells (L.drop i) ++ R'))).toArray) := fun ty dc sc => by
    have := copyN_row (P := Try.prog) W2.drew 22 22 ty 45 3 (n - i) k (i * 3 + m * 3) (n + m - (i + m)) dc ⟨g, i * 3, none⟩ (n - i) sc (splice (ccells (L.take i) ++ Z) (i * 3) (ccells V)).toArray 45 (ccells (L.drop i)) Try.underlying22 sizeNz (Blk.drew hB2) (by simp only [Nat.min_def]; split <;> omega) hY
      (fun j v hj => by
        rw [Addr.add_lit, (Blk.drew hS2).cell, List.getElem?_toArray, List.getElem?_append_right (by omega), List.getElem?_append_left (by
          have := (List.getElem?_eq_some_iff.1 hj).1; omega), hX, Nat.add_sub_cancel_left]
        exact hj) (by simp only [List.size_toArray, hl2, hY]; omega) (ccells_one _)
    rw [show (i + m) * 3 = i * 3 + m * 3 by omega, this]
    simp only [hsp]
  have HF : Hid (NStep w (W2.drew.setRow k (ccells (L.take i) ++ (ccells V ++ (ccells (L.drop i) ++ R'))).toArray) base (.slice (some ⟨g, 0, none⟩) n c) (.slice (some ⟨k, 0, none⟩) (n + m) C) (L.take i ++ V ++ L.drop i)) := Lib.hid (by
    have hll : (L.take i ++ V ++ L.drop i).length = n + m := by simp [hln, hm]; omega
    refine ⟨?_, ⟨hG2.os, hG2.tape, hG2.output, by simpa using hG2.size, fun j h1 h2 => (setRow_other W2.drew k j _ (by omega)).trans (hG2.block j h1 h2)⟩, .inr (by simp [Value.ownBlock, hk])⟩
    rw [hll]
    refine no_of (R := R') (by omega) ?_ hll hC1 hC2 hR'l
    rw [ccells_more, ccells_more, List.append_assoc, List.append_assoc]
    exact blk_setRow (Blk.drew hB2) _)
  rw [hk] at hap
  have hz1 : ¬ ((m : Int) = 0) := by omega
  have hz2 : ¬ ((i : Int) = (n : Int)) := by omega
  have hw1 : IntKind.i64.wrap ((i : Int) + (m : Int)) = (i : Int) + (m : Int) := by rw [IntKind.wrap_i64]; omega
  have hw2 : IntKind.i64.wrap ((n : Int) + (m : Int)) = (n : Int) + (m : Int) := by rw [IntKind.wrap_i64]; omega
  have hw3 : IntKind.i64.wrap ((n : Int) + (m : Int) - (i : Int)) = (n : Int) + (m : Int) - (i : Int) := by rw [IntKind.wrap_i64]; omega
  have hb0 : (c : Int) < (n : Int) + (m : Int) := by omega
  have hb1 : (0 : Int) ≤ (i : Int) + (m : Int) := by omega
  have hin : i ≤ n := by omega
  have hic : i ≤ c := by omega
  have htn : ((i : Int) + (m : Int)).toNat = i + m := by omega
  have hb2 : ¬ (C = i + m) := by omega
  have hb3 : (i : Int) ≤ (n : Int) + (m : Int) := by omega
  have hb4 : ¬ (c = i) := by omega
  have hb5 : ¬ (C = i) := by omega
  have mixed : Try.prog.follows Departure.mixedOrders = true := by kernel_rfl
  clear ho hV1 hB1 hB hV hG1 hW1 hsp hcur hX hY hVl hR hS1 hB2 hS2 hG2 hl2 hR' hR'l hZ hZl hW2 hC hC2 hz hzc hz0 hi0 hvk hgk
  go_enter Try.func76, Try.ntmps76
  go_wp2_with (at_builtin; first | refine Lib.wpList_append_run _ rfl _ _ 22 3 rfl _ _ rfl rfl _ _ (hap _) ?_ | refine wpList_copy_run' _ rfl _ _ 22 22 rfl _ _ rfl rfl (hcp1 _ _) ?_)
  go_region_law_o (refine step_copy_run' rfl _ _ 22 22 rfl _ _ (by simp [Act.eval, Act.put]) (by simp [Act.eval, Act.put]) (hcp2 _ _ _) ?_)
  go_wp2
  go_ret
  exact ⟨_, rfl, HF.out⟩
end Go.Proofs.Ytbecambkjmheiaa
/- slices.Delete and slices.Replace of one element, over a row of cells that the call owns. -/
namespace Go.Proofs.Ytbecambkjmheiaa
open Go.RowKit Go.Lib

theorem step_append_run' {P : Program} {ops : Array Oper} {o : Oper} {a : Act} {w : World} {K : Act → World → Prop} {Q : Exit → Act → World → Prop} {E : Prop}
    (hg : o.guard = none) (d x : Operand) (dT sT : TypeId) (hop : o.op = Op.call { callee := Callee.builtin Builtin.append, args := #[d, x], argTypes := #[dT, sT] })
    (v u : Value) (hd : a.eval d = v) (hx : a.eval x = u) {v' : Value} {w' : World} (hr : (Builtin.append_ #[dT, sT] o.type #[v, u]).run P w = .ok v' w') (hK : K (a.put o.dst v') w') :
    if Region.wanted o (yielded ops a.tmps) = true then Oper.wp P o a w K Q else E := by
  have hw : Region.wanted o (yielded ops a.tmps) = true := by simp [Region.wanted, hg]
  rw [if_pos hw]
  unfold Oper.wp
  simp [execOp, hop, resolve, invoke, builtin, hd, hx, hr, Result.andThen]
  exact hK
theorem clearN_none {P : Program} (w : World) (t ty e : TypeId) (A : Option Addr) (c : Nat) (ht : P.underlying t = some (.slice e)) : (Builtin.clear_ #[t] ty #[.slice A 0 c]).run P w = .ok (.tuple #[]) w := by
  cases A <;> simp [Builtin.clear_, run_underlying ht]

set_option maxHeartbeats 4000000 in
set_option maxRecDepth 100000 in
theorem ndel_none (A : Option Addr) (n c i : Nat) (w : World) (hi : i ≤ n) (hc : n ≤ c) :
    Calls Try.prog 62 #[.slice A n c, .int .i64 (i : Int), .int .i64 (i : Int)] w fun e w' => e = .returned (.slice A n c) ∧ w' = w := by
  have hsl : ∀ W : World, ∃ A' n' c', (Instr.slice 22 (.slice A n c) (some (.int .i64 (i : Int))) (some (.int .i64 (i : Int))) (some (.int .i64 (n : Int)))).run Try.prog W = .ok (.slice A' n' c') W := fun W => by
    obtain ⟨j, hj⟩ : ∃ j, Try.prog.info? 45 = some j := Option.isSome_iff_exists.1 (by kernel_rfl)
    have hb : (Instr.sliceBounds true n c (some (.int .i64 (i : Int))) (some (.int .i64 (i : Int))) (some (.int .i64 (n : Int)))).run Try.prog W = .ok (i, i, n) W := by
      have h3 : (n : Int) ≤ (c : Int) := by omega
      simp [Instr.sliceBounds, Instr.sliceBound, asIntOf, h3, hi]
    simp [Instr.slice, run_underlying (P := Try.prog) (w := W) Try.underlying22, hb, sizeOf, typeInfo, hj]
  go_enter Try.func62, Try.ntmps62
  obtain ⟨A', n', c', hs⟩ := hsl w
  go_wp2
  go_ret
  exact ⟨rfl, rfl⟩

theorem ndel_put {X D Y R Z : List Value} {a b d : Nat} (hX : X.length = a) (hY : Y.length = b) (hD : D.length = d) (hZ : Z.length = d) :
    ∃ R', splice ((X ++ (D ++ (Y ++ R))).take a ++ Y ++ (X ++ (D ++ (Y ++ R))).drop (a + Y.length)) (a + b) Z = X ++ (Y ++ R') ∧ R'.length = R.length + d := by
  have e1 : (X ++ (D ++ (Y ++ R))).take a = X := by rw [← hX]; exact List.take_left
  rw [e1, splice_at _ _ _ _ (by simp [hX, hY]), List.append_assoc]
  exact ⟨_, rfl, by simp [hX, hY, hZ, hD]; omega⟩
theorem ccells_split {L : List CL} {i : Nat} (h : i < L.length) : ccells L = ccells (L.take i) ++ (ccells [L.getD i default] ++ ccells (L.drop (i + 1))) := by
  rw [← ccells_more, ← ccells_more, cgetD h, List.singleton_append, ← List.drop_eq_getElem_cons h, List.take_append_drop]

set_option maxHeartbeats 4000000 in
set_option maxRecDepth 100000 in
theorem ndel_one (A : Option Addr) (q c i base : Nat) (L : List CL) (w : World) (ho : NO w base (.slice A (q + 1) c) (q + 1) L) (hi : i ≤ q) (hn : q ≤ 4096) :
    Calls Try.prog 62 #[.slice A (q + 1) c, .int .i64 (i : Int), .int .i64 ((i : Int) + 1)] w fun e w' => ∃ v', e = .returned v' ∧ NStep w w' base (.slice A (q + 1) c) v' (L.take i ++ L.drop (i + 1)) := by
  have hln := no_len ho
  rcases no_cur ho with ⟨_, h1, _, _⟩ | ⟨g, R, rfl, hbg, hB, hnc, hcm, hR⟩
  · omega
  have hX : (ccells (L.take i)).length = i * 3 := by rw [ccells_len, List.length_take, hln]; omega
  have hY : (ccells (L.drop (i + 1))).length = (q - i) * 3 := by rw [ccells_len, List.length_drop, hln]; omega
  have hD : (ccells [L.getD i default]).length = 3 := rfl
  obtain ⟨z, hz⟩ : ∃ z : Value, z = .agg #[.int .u64 0, .int .i64 0, .string ⟨#[]⟩] := ⟨_, rfl⟩
  have hzc : z.cells.size = 3 := by rw [hz]; rfl
  have hz1 : ∀ v ∈ z.cells, v.oneCell' = true := by
    rw [hz]; intro v hv; simp [Value.cells] at hv
    rcases hv with rfl | rfl | rfl <;> rfl
  have hZl : (Builtin.zeroCells z.cells 1).toList.length = 3 := by simp [zeroCells_len, hzc]
  rw [ccells_split (L := L) (i := i) (by omega), List.append_assoc, List.append_assoc] at hB
  obtain ⟨R', hsp, hR'⟩ := ndel_put (R := R) hX hY hD hZl
  obtain ⟨cur, hcur⟩ : ∃ cur, ccells (L.take i) ++ (ccells [L.getD i default] ++ (ccells (L.drop (i + 1)) ++ R)) = cur := ⟨_, rfl⟩
  rw [hcur] at hB hsp
  have hcl : cur.length = c * 3 := by rw [← hcur]; simp only [List.length_append, hX, hD, hY, hR]; omega
  obtain ⟨ti, hi0, hzz0, hzz1, hzz2⟩ := info_parts infoN
  obtain ⟨W1, hW1⟩ : ∃ W1, W1 = w.drew.setRow g (cur.take (i * 3) ++ ccells (L.drop (i + 1)) ++ cur.drop (i * 3 + (ccells (L.drop (i + 1))).length)).toArray := ⟨_, rfl⟩
  have hcl1 : (cur.take (i * 3) ++ ccells (L.drop (i + 1)) ++ cur.drop (i * 3 + (ccells (L.drop (i + 1))).length)).length = c * 3 := by simp only [List.length_append, List.length_take, List.length_drop, hcl, hY]; omega
  have hB1 : Blk W1 g 45 (cur.take (i * 3) ++ ccells (L.drop (i + 1)) ++ cur.drop (i * 3 + (ccells (L.drop (i + 1))).length)).toArray := by rw [hW1]; exact blk_setRow (Blk.drew hB) _
  have hG1 : w.grownBy W1 (some g) := by rw [hW1]; exact grownBy_drew (grownBy_setRow _ _ _)
  have hld : (loadCellsFrom ⟨g, (i + 1) * 3, none⟩ 0 ((q - i) * 3) #[]).run Try.prog w.drew = .ok (ccells (L.drop (i + 1))).toArray w.drew := by
    have := run_loadCells_list (P := Try.prog) w.drew ⟨g, (i + 1) * 3, none⟩ (ccells (L.drop (i + 1))) (fun j v hj => by
      rw [Addr.add_lit, (Blk.drew hB).cell, List.getElem?_toArray, ← hcur, List.getElem?_append_right (by omega), List.getElem?_append_right (by omega), List.getElem?_append_left (by
        have := (List.getElem?_eq_some_iff.1 hj).1; omega), hX, hD]
      rw [show (i + 1) * 3 + j - i * 3 - 3 = j by omega]
      exact hj)
    rw [hY] at this
    exact this
  have hst : (storeCells ⟨g, i * 3, none⟩ (ccells (L.drop (i + 1)))).run Try.prog w.drew = .ok () W1 := by
    have := run_storeCells_at Try.prog g (i * 3) 45 (ccells (L.drop (i + 1))) 0 cur.toArray w.drew (Blk.drew hB) (by simp only [List.size_toArray, hcl, hY]; omega) (ccells_one _)
    rw [this, hW1]
    simp
  have hself : i = q → W1 = w.drew := fun e => by
    rw [hW1, show (cur.take (i * 3) ++ ccells (L.drop (i + 1)) ++ cur.drop (i * 3 + (ccells (L.drop (i + 1))).length)) = cur by
      rw [List.eq_nil_of_length_eq_zero (l := ccells (L.drop (i + 1))) (by omega)]; simp]
    exact setRow_self w.drew g _ _ _ (Blk.drew hB)
  have hcle : ∀ W : World, W.heap = W1.heap → ∀ ty sc, (Builtin.clear_ #[22] ty #[.slice (some ⟨g, q * 3, none⟩) 1 sc]).run Try.prog W = .ok (.tuple #[]) (W.setRow g (ccells (L.take i) ++ (ccells (L.drop (i + 1)) ++ R')).toArray) := fun W hW ty sc => by
    have := clearN_row (P := Try.prog) W 22 ty 45 z Try.underlying22 (by rw [hz]; exact infoNz) g (q * 3) 1 sc (by omega) _ 45 (by rw [hW]; exact hB1) (by simp only [List.size_toArray, hcl1, hzc]; omega) hz1
    rw [this]
    have e : i * 3 + (q - i) * 3 = q * 3 := by omega
    rw [e] at hsp
    simp only [hsp]
  have HF : Hid (∀ W : World, W.heap = W1.heap → W.os = W1.os → W.tape = W1.tape → W.output = W1.output → NStep w (W.setRow g (ccells (L.take i) ++ (ccells (L.drop (i + 1)) ++ R')).toArray) base (.slice (some ⟨g, 0, none⟩) (q + 1) c) (.slice (some ⟨g, 0, none⟩) q c) (L.take i ++ L.drop (i + 1))) := Lib.hid fun W hW q1 q2 q3 => by
    have hll : (L.take i ++ L.drop (i + 1)).length = q := by simp [hln]; omega
    have hbl : Blk W g 45 (cur.take (i * 3) ++ ccells (L.drop (i + 1)) ++ cur.drop (i * 3 + (ccells (L.drop (i + 1))).length)).toArray := by unfold Blk; rw [hW]; exact hB1
    refine ⟨?_, ?_, .inl rfl⟩
    · rw [hll]
      refine no_of (R := R') hbg ?_ hll (by omega) hcm (by rw [hR', hR]; omega)
      rw [ccells_more, List.append_assoc]
      exact blk_setRow hbl _
    · have hg2 : w.grownBy W (some g) := ⟨q1.trans hG1.os, q2.trans hG1.tape, q3.trans hG1.output, by rw [hW]; exact hG1.size, fun k h1 h2 => by rw [hW]; exact hG1.block k h1 h2⟩
      exact hg2.trans (grownBy_setRow _ _ _)
  have hne : ¬ ((i : Int) = (i : Int) + 1) := by omega
  have hne2 : ¬ (c = q) := by omega
  have hic : i ≤ c := by omega
  have h63 : c ≤ 9223372036854775807 := hcm
  have hq0 : (0 : Int) ≤ (i : Int) + 1 := by omega
  have hq1 : ((i : Int) + 1).toNat = i + 1 := by omega
  have hq2 : (i : Int) ≤ (q : Int) := by omega
  have hq5 : (i : Int) ≤ (i : Int) + 1 := by omega
  have hqc : q ≤ c := by omega
  have hqi : i + (q - i) = q := by omega
  have hq3 : (q : Int) + 1 ≤ (c : Int) := by omega
  have hw1 : IntKind.i64.wrap ((q : Int) + 1) = (q : Int) + 1 := by rw [IntKind.wrap_i64]; omega
  have mixed : Try.prog.follows Departure.mixedOrders = true := by kernel_rfl
  clear ho hB hB1 hG1 hW1 hsp hcur hX hY hD hR hR' hZl hcl hcl1 hz hzc hz1 hzz0 hi0 hzz1 hzz2 ti
  rcases Nat.eq_or_lt_of_le hi with e | hlt
  · have h9 := hself e
    clear hself hld hst
    subst e
    subst h9
    rcases Nat.eq_or_lt_of_le hnc with e2 | e2
    · subst e2
      go_enter Try.func62, Try.ntmps62
      go_wp2
      go_region
      go_wp2_with (at_builtin; refine wpList_clear_run _ rfl _ 22 rfl _ rfl _ _ (hcle _ rfl _ _) ?_)
      go_ret
      exact ⟨_, rfl, HF.out _ rfl rfl rfl rfl⟩
    · have hne3 : ¬ (c = i + 1) := by omega
      go_enter Try.func62, Try.ntmps62
      go_wp2
      go_region
      go_wp2_with (at_builtin; refine wpList_clear_run _ rfl _ 22 rfl _ rfl _ _ (hcle _ rfl _ _) ?_)
      go_ret
      exact ⟨_, rfl, HF.out _ rfl rfl rfl rfl⟩
  · clear hself
    have hne3 : ¬ (c = i + 1) := by omega
    have hi1 : i + 1 ≤ q + 1 := by omega
    have hq4 : (i : Int) + 1 ≤ (q : Int) + 1 := by omega
    generalize ccells (L.drop (i + 1)) = Y at *
    go_enter Try.func62, Try.ntmps62
    go_wp2
    go_region
    go_wp2_with (at_builtin; refine wpList_clear_run _ rfl _ 22 rfl _ rfl _ _ (hcle _ rfl _ _) ?_)
    go_ret
    exact ⟨_, rfl, HF.out _ rfl rfl rfl rfl⟩
end Go.Proofs.Ytbecambkjmheiaa
/- slices.Replace of one element by one, over a row of cells that the call owns. -/
namespace Go.Proofs.Ytbecambkjmheiaa
open Go.RowKit Go.Lib

theorem nrep_mid {X D Y R V : List Value} {a d b : Nat} (hX : X.length = a) (hD : D.length = d) (hV : V.length = d) (hY : Y.length = b) :
    splice (splice (X ++ (D ++ (Y ++ R))) a V) (a + d) Y = X ++ (V ++ (Y ++ R)) := by
  rw [splice_at _ _ _ _ hX, hV, List.drop_left' hD, ← List.append_assoc, splice_at _ _ _ _ (by simp [hX, hV]), hY, List.drop_left' hY, List.append_assoc]

set_option maxHeartbeats 4000000 in
set_option maxRecDepth 100000 in
theorem nrep_one (A : Option Addr) (q c i vb vc base : Nat) (L : List CL) (x : CL) (w : World) (ho : NO w base (.slice A (q + 1) c) (q + 1) L) (hV : Blk w vb 45 (ccells [x]).toArray) (hvb : (Value.slice A (q + 1) c).ownBlock ≠ some vb) (hi : i ≤ q) (hn : q ≤ 4096) :
    Calls Try.prog 63 #[.slice A (q + 1) c, .int .i64 (i : Int), .int .i64 ((i : Int) + 1), .slice (some ⟨vb, 0, none⟩) 1 vc] w fun e w' => ∃ v', e = .returned v' ∧ NStep w w' base (.slice A (q + 1) c) v' (L.take i ++ [x] ++ L.drop (i + 1)) := by
  have hln := no_len ho
  rcases no_cur ho with ⟨_, h1, _, _⟩ | ⟨g, R, rfl, hbg, hB, hnc, hcm, hR⟩
  · omega
  have hne : vb ≠ g := fun e => hvb (by rw [e]; rfl)
  have hX : (ccells (L.take i)).length = i * 3 := by rw [ccells_len, List.length_take, hln]; omega
  have hY : (ccells (L.drop (i + 1))).length = (q - i) * 3 := by rw [ccells_len, List.length_drop, hln]; omega
  have hD : (ccells [L.getD i default]).length = 3 := rfl
  have hVl : (ccells [x]).length = 3 := rfl
  rw [ccells_split (L := L) (i := i) (by omega), List.append_assoc, List.append_assoc] at hB
  have hsp := nrep_mid (R := R) hX hD hVl hY
  obtain ⟨cur, hcur⟩ : ∃ cur, ccells (L.take i) ++ (ccells [L.getD i default] ++ (ccells (L.drop (i + 1)) ++ R)) = cur := ⟨_, rfl⟩
  rw [hcur] at hB hsp
  have hcl : cur.length = c * 3 := by rw [← hcur]; simp only [List.length_append, hX, hD, hY, hR]; omega
  have hl1 : (splice cur (i * 3) (ccells [x])).length = c * 3 := by rw [length_splice _ _ _ (by rw [hcl, hVl]; omega), hcl]
  obtain ⟨W1, hW1⟩ : ∃ W1, W1 = w.setRow g (splice cur (i * 3) (ccells [x])).toArray := ⟨_, rfl⟩
  have hB1 : Blk W1 g 45 (splice cur (i * 3) (ccells [x])).toArray := by rw [hW1]; exact blk_setRow hB _
  have hG1 : w.grownBy W1 (some g) := by rw [hW1]; exact grownBy_setRow _ _ _
  have hfin : ∀ W : World, Blk W g 45 (ccells (L.take i) ++ (ccells [x] ++ (ccells (L.drop (i + 1)) ++ R))).toArray → w.grownBy W (some g) → NStep w W base (.slice (some ⟨g, 0, none⟩) (q + 1) c) (.slice (some ⟨g, 0, none⟩) (q + 1) c) (L.take i ++ [x] ++ L.drop (i + 1)) := fun W hb hg => by
    have hll : (L.take i ++ [x] ++ L.drop (i + 1)).length = q + 1 := by simp [hln]; omega
    refine ⟨?_, hg, .inl rfl⟩
    rw [hll]
    refine no_of (R := R) hbg ?_ hll (by omega) hcm hR
    rw [ccells_more, ccells_more, List.append_assoc, List.append_assoc]
    exact hb
  have hqc : i + 1 ≤ c := by omega
  have mixed : Try.prog.follows Departure.mixedOrders = true := by kernel_rfl
  have hw1 : IntKind.i64.wrap ((i : Int) + 1) = (i : Int) + 1 := by rw [IntKind.wrap_i64]; omega
  have hne1 : ¬ ((i : Int) = (i : Int) + 1) := by omega
  have hq5 : (i : Int) ≤ (i : Int) + 1 := by omega
  have hq0 : (0 : Int) ≤ (i : Int) + 1 := by omega
  have hq1 : ((i : Int) + 1).toNat = i + 1 := by omega
  have hq2 : (i : Int) ≤ (q : Int) := by omega
  have h63 : c ≤ 9223372036854775807 := hcm
  rcases Nat.eq_or_lt_of_le hi with e | hlt
  · subst e
    have hY0 : ccells (L.drop (i + 1)) = [] := List.eq_nil_of_length_eq_zero (by omega)
    obtain ⟨ti, hi0, hzz0, hzz1, hzz2⟩ := info_parts infoN
    have hap : ∀ ty, (Builtin.append_ #[22, 22] ty #[.slice (some ⟨g, 0, none⟩) i c, .slice (some ⟨vb, 0, none⟩) 1 vc]).run Try.prog w = .ok (.slice (some ⟨g, 0, none⟩) (i + 1) c) W1 := fun ty => by
      have := run_append_room (P := Try.prog) w 22 ty 45 ti Try.underlying22 hi0 g i c cur.toArray hB ⟨vb, 0, none⟩ 1 vc (ccells [x]) (by rw [hzz1]; rfl) (fun j v hj => by
        rw [Addr.add_lit, Nat.zero_add, hV.cell, List.getElem?_toArray]; exact hj) (ccells_one _) (by omega) (by rw [hzz1]; simp only [List.size_toArray, hcl, hVl]; omega)
      rw [this, hW1, hzz1]
      simp [splice]
    have HF : Hid (NStep w W1 base (.slice (some ⟨g, 0, none⟩) (i + 1) c) (.slice (some ⟨g, 0, none⟩) (i + 1) c) (L.take i ++ [x] ++ L.drop (i + 1))) := Lib.hid (hfin W1 (by
      have e9 : splice cur (i * 3) (ccells [x]) = ccells (L.take i) ++ (ccells [x] ++ (ccells (L.drop (i + 1)) ++ R)) := by
        rw [← hcur, splice_at _ _ _ _ hX, hVl, List.drop_left' hD]
      rw [← e9]
      exact hB1) hG1)
    clear ho hB hB1 hG1 hW1 hsp hcur hX hY hD hR hcl hl1 hfin hV hzz0 hzz1 hzz2 hi0 ti hvb hVl hY0
    rcases Nat.eq_or_lt_of_le hnc with e2 | e2
    · subst e2
      go_enter Try.func63, Try.ntmps63
      go_wp2_with (at_builtin; refine Lib.wpList_append_run _ rfl _ _ 22 22 rfl _ _ rfl rfl _ _ (hap _) ?_)
      go_ret
      exact ⟨_, rfl, HF.out⟩
    · have hne3 : ¬ (c = i + 1) := by omega
      have hne4 : ¬ (c = i) := by omega
      go_enter Try.func63, Try.ntmps63
      go_wp2_with (at_builtin; refine Lib.wpList_append_run _ rfl _ _ 22 22 rfl _ _ rfl rfl _ _ (hap _) ?_)
      go_ret
      exact ⟨_, rfl, HF.out⟩
  · have hcp1 : ∀ W : World, W.heap = w.heap → ∀ ty dc, (Builtin.copy_ #[22, 22] ty #[.slice (some ⟨g, i * 3, none⟩) (q + 1 - i) dc, .slice (some ⟨vb, 0, none⟩) 1 vc]).run Try.prog W = .ok (goInt 1) (W.setRow g (splice cur (i * 3) (ccells [x])).toArray) := fun W hW ty dc => by
      have := copyN_row (P := Try.prog) W 22 22 ty 45 3 1 g (i * 3) (q + 1 - i) dc ⟨vb, 0, none⟩ 1 vc cur.toArray 45 (ccells [x]) Try.underlying22 sizeNz (by rw [hW]; exact hB) (by simp only [Nat.min_def]; split <;> omega) rfl
        (fun j v hj => by rw [Addr.add_lit, Nat.zero_add, Blk.cell (show Blk W vb 45 (ccells [x]).toArray from (by unfold Blk; rw [hW]; exact hV)), List.getElem?_toArray]; exact hj) (by simp only [List.size_toArray, hcl, hVl]; omega) (ccells_one _)
      exact this
    have hcp2 : ∀ W : World, W.heap = W1.heap → ∀ ty dc sc, (Builtin.copy_ #[22, 22] ty #[.slice (some ⟨g, (i + 1) * 3, none⟩) (q - i) dc, .slice (some ⟨g, (i + 1) * 3, none⟩) (q - i) sc]).run Try.prog W = .ok (goInt ((q - i : Nat) : Int)) (W.setRow g (ccells (L.take i) ++ (ccells [x] ++ (ccells (L.drop (i + 1)) ++ R))).toArray) := fun W hW ty dc sc => by
      have := copyN_row (P := Try.prog) W 22 22 ty 45 3 (q - i) g (i * 3 + 3) (q - i) dc ⟨g, i * 3 + 3, none⟩ (q - i) sc (splice cur (i * 3) (ccells [x])).toArray 45 (ccells (L.drop (i + 1))) Try.underlying22 sizeNz (by rw [hW]; exact hB1) (by simp only [Nat.min_def]; split <;> omega) hY
        (fun j v hj => by
          have hj2 := (List.getElem?_eq_some_iff.1 hj).1
          rw [Addr.add_lit, Blk.cell (show Blk W g 45 (splice cur (i * 3) (ccells [x])).toArray from (by unfold Blk; rw [hW]; exact hB1)), List.getElem?_toArray, ← hcur, splice_at _ _ _ _ hX, hVl, List.drop_left' hD, List.getElem?_append_right (by omega), List.getElem?_append_right (by omega), List.getElem?_append_left (by omega), hX, hVl]
          rw [show i * 3 + 3 + j - i * 3 - 3 = j by omega]
          exact hj) (by simp only [List.size_toArray, hl1, hY]; omega) (ccells_one _)
      rw [show (i + 1) * 3 = i * 3 + 3 by omega, this]
      simp only [hsp]
    have HF : Hid (∀ W : World, W.heap = W1.heap → W.os = W1.os → W.tape = W1.tape → W.output = W1.output → NStep w (W.setRow g (ccells (L.take i) ++ (ccells [x] ++ (ccells (L.drop (i + 1)) ++ R))).toArray) base (.slice (some ⟨g, 0, none⟩) (q + 1) c) (.slice (some ⟨g, 0, none⟩) (q + 1) c) (L.take i ++ [x] ++ L.drop (i + 1))) := Lib.hid fun W hW q1 q2 q3 => by
      have hbl : Blk W g 45 (splice cur (i * 3) (ccells [x])).toArray := by unfold Blk; rw [hW]; exact hB1
      have hg2 : w.grownBy W (some g) := ⟨q1.trans hG1.os, q2.trans hG1.tape, q3.trans hG1.output, by rw [hW]; exact hG1.size, fun k h1 h2 => by rw [hW]; exact hG1.block k h1 h2⟩
      exact hfin _ (blk_setRow hbl _) (hg2.trans (grownBy_setRow _ _ _))
    have hcn := fun (W : World) ty A c => clearN_none (P := Try.prog) W 22 ty 45 A c Try.underlying22
    have hne3 : ¬ (c = i + 1) := by omega
    have hne4 : ¬ (c = i) := by omega
    have hi1 : i + 1 ≤ q + 1 := by omega
    have hq4 : (i : Int) + 1 ≤ (q : Int) + 1 := by omega
    have hne5 : ¬ ((i : Int) + 1 = (q : Int) + 1) := by omega
    have hq7 : (i : Int) ≤ (c : Int) := by omega
    have hne6 : ¬ (i = q) := by omega
    have hne9 : ¬ (q = i) := by omega
    have htot : (i : Int) + 1 + ((q - i : Nat) : Int) = (q : Int) + 1 := by omega
    have htot2 : IntKind.i64.wrap ((q : Int) + 1) = (q : Int) + 1 := by rw [IntKind.wrap_i64]; omega
    have htot3 : (q : Int) + 1 ≤ (c : Int) := by omega
    have htot4 : ((q : Int) + 1).toNat = q + 1 := by omega
    have htot5 : (0 : Int) ≤ (q : Int) + 1 := by omega
    have htot6 : ¬ ((c : Int) < (q : Int) + 1) := by omega
    have htot7 : (i : Int) + 1 + ((q : Int) - (i : Int)) = (q : Int) + 1 := by omega
    obtain ⟨W2, hW2⟩ : ∃ W2, W2 = w.drew.setRow g (splice cur (i * 3) (ccells [x])).toArray := ⟨_, rfl⟩
    have hcpA : ∀ ty dc, (Builtin.copy_ #[22, 22] ty #[.slice (some ⟨g, i * 3, none⟩) (q + 1 - i) dc, .slice (some ⟨vb, 0, none⟩) 1 vc]).run Try.prog w.drew = .ok (goInt 1) W2 := fun ty dc => by rw [hW2]; exact hcp1 w.drew rfl ty dc
    have hcpB : ∀ ty dc sc, (Builtin.copy_ #[22, 22] ty #[.slice (some ⟨g, (i + 1) * 3, none⟩) (q - i) dc, .slice (some ⟨g, (i + 1) * 3, none⟩) (q - i) sc]).run Try.prog W2.drew = .ok (goInt ((q - i : Nat) : Int)) (W2.drew.setRow g (ccells (L.take i) ++ (ccells [x] ++ (ccells (L.drop (i + 1)) ++ R))).toArray) := hcp2 W2.drew (by rw [hW2, hW1]; rfl)
    have HG := Lib.hid (HF.out W2.drew (by rw [hW2, hW1]; rfl) (by rw [hW2, hW1]; rfl) (by rw [hW2, hW1]; rfl) (by rw [hW2, hW1]; rfl))
    clear hcp1 hcp2 HF hW2
    generalize L.take i ++ [x] ++ L.drop (i + 1) = N at *
    clear ho hB hB1 hG1 hW1 hsp hcur hX hY hD hR hcl hl1 hfin hV hvb hVl
    rcases Nat.eq_or_lt_of_le hnc with e2 | e2
    · subst e2
      go_enter Try.func63, Try.ntmps63
      go_wp2
      go_region
      go_wp2
      go_region_law_o (refine step_copy_run' rfl _ _ 22 22 rfl _ _ (by simp [Act.eval, Act.put]) (by simp [Act.eval, Act.put]) (hcpB _ _ _) ?_)
      go_wp2
      go_ret
      exact ⟨_, rfl, HG.out⟩
    · have hne8 : ¬ (c = q + 1) := by omega
      go_enter Try.func63, Try.ntmps63
      go_wp2
      go_region
      go_wp2
      go_region_law_o (refine step_copy_run' rfl _ _ 22 22 rfl _ _ (by simp [Act.eval, Act.put]) (by simp [Act.eval, Act.put]) (hcpB _ _ _) ?_)
      go_wp2
      go_ret
      exact ⟨_, rfl, HG.out⟩
/-- Insert of one, whatever the place and the room. -/
theorem nins_one (A : Option Addr) (n c i vb vc base : Nat) (L : List CL) (x : CL) (w : World) (ho : NO w base (.slice A n c) n L) (hV : Blk w vb 45 (ccells [x]).toArray) (hvb : (Value.slice A n c).ownBlock ≠ some vb) (hi : i ≤ n) (hn : n ≤ 4000) (hb : base ≤ w.heap.size) :
    Calls Try.prog 76 #[.slice A n c, .int .i64 (i : Int), .slice (some ⟨vb, 0, none⟩) 1 vc] w fun e w' => ∃ v', e = .returned v' ∧ NStep w w' base (.slice A n c) v' (L.take i ++ [x] ++ L.drop i) := by
  have hl := no_len ho
  rcases Nat.eq_or_lt_of_le hi with e | hlt
  · subst e
    have := nins_end A i c vb 1 vc base L [x] w ho hV rfl (by omega) (by omega) hb
    rw [List.take_of_length_le (by omega), List.drop_of_length_le (by omega), List.append_nil]
    exact this
  · rcases Nat.lt_or_ge c (n + 1) with h | h
    · exact nins_grow A n c i vb 1 vc base L [x] w ho hV rfl (by omega) (by omega) hlt h hb
    · exact nins_room A n c i vb 1 vc base L [x] w ho hV hvb rfl (by omega) (by omega) hlt h
set_option maxHeartbeats 2000000 in
set_option maxRecDepth 100000 in
/-- Replace of none by one. -/
theorem nrep_ins (A : Option Addr) (n c i vb vc base : Nat) (L : List CL) (x : CL) (w : World) (ho : NO w base (.slice A n c) n L) (hV : Blk w vb 45 (ccells [x]).toArray) (hvb : (Value.slice A n c).ownBlock ≠ some vb) (hi : i ≤ n) (hc : n ≤ c) (hn : n ≤ 4000) (hb : base ≤ w.heap.size) :
    Calls Try.prog 63 #[.slice A n c, .int .i64 (i : Int), .int .i64 (i : Int), .slice (some ⟨vb, 0, none⟩) 1 vc] w fun e w' => ∃ v', e = .returned v' ∧ NStep w w' base (.slice A n c) v' (L.take i ++ [x] ++ L.drop i) := by
  have HI := Lib.hid (nins_one A n c i vb vc base L x w ho hV hvb hi hn hb)
  have hsl : ∀ W : World, ∃ A' n' c', (Instr.slice 22 (.slice A n c) (some (.int .i64 (i : Int))) (some (.int .i64 (i : Int))) none).run Try.prog W = .ok (.slice A' n' c') W := fun W => by
    obtain ⟨j, hj⟩ : ∃ j, Try.prog.info? 45 = some j := Option.isSome_iff_exists.1 (by kernel_rfl)
    have hb : (Instr.sliceBounds true n c (some (.int .i64 (i : Int))) (some (.int .i64 (i : Int))) none).run Try.prog W = .ok (i, i, c) W := by
      have h1 : (i : Int) ≤ (c : Int) := by omega
      simp [Instr.sliceBounds, Instr.sliceBound, asIntOf]
      omega
    simp [Instr.slice, run_underlying (P := Try.prog) (w := W) Try.underlying22, hb, sizeOf, typeInfo, hj]
  clear ho hV hvb hb
  generalize L.take i ++ [x] ++ L.drop i = N at *
  go_enter Try.func63, Try.ntmps63
  obtain ⟨A', n', c', hs⟩ := hsl w
  clear hsl
  go_wp2_with fail
  refine HI.out.mono ?_
  rintro e w1 ⟨v', rfl, hst⟩
  have HST := Lib.hid hst
  clear hst
  go_wp2
  go_ret
  exact ⟨v', rfl, HST.out⟩
end Go.Proofs.Ytbecambkjmheiaa
/- The contract of put: one cell put in its place, in a row that the call owns. -/
namespace Go.Proofs.Ytbecambkjmheiaa
open Go.RowKit Go.Lib

theorem no_read {w : World} {base n c : Nat} {A : Option Addr} {L : List CL} (h : NO w base (.slice A n c) n L) : CR w A L := own_CR h (no_len h)
theorem no_le {w : World} {base n c : Nat} {A : Option Addr} {L : List CL} (h : NO w base (.slice A n c) n L) : n ≤ c := by
  rcases no_cur h with ⟨_, h1, h2, _⟩ | ⟨_, _, _, _, _, h1, _⟩ <;> omega
theorem no_later {w w' : World} {base n : Nat} {v : Value} {L : List CL} (h : NO w base v n L) (hb : Below w.heap.size w w') : NO w' base v n L :=
  vown_kept h fun k hk => by
    obtain ⟨_, cs, hB⟩ := vown_blk h k hk
    exact hb.block k hB.lt
theorem no_lt {w : World} {base n k : Nat} {v : Value} {L : List CL} (h : NO w base v n L) (hk : v.ownBlock = some k) : base ≤ k ∧ k < w.heap.size := by
  obtain ⟨h1, cs, hB⟩ := vown_blk h k hk
  exact ⟨h1, hB.lt⟩
/-- What a change leaves, seen from ahead of what the call made beside. -/
theorem NStep.back {w w1 w' : World} {base : Nat} {v v' : Value} {L' : List CL} (h : NStep w1 w' base v v' L') (hb : Below w.heap.size w w1) :
    NO w' base v' L'.length L' ∧ w.grownBy w' v.ownBlock ∧ (v'.ownBlock = v.ownBlock ∨ ∃ k, v'.ownBlock = some k ∧ w.heap.size ≤ k) := by
  refine ⟨h.1, ⟨h.2.1.os.trans hb.os, h.2.1.tape.trans hb.tape, h.2.1.output.trans hb.output, Nat.le_trans hb.size h.2.1.size, fun k h1 h2 => ?_⟩, ?_⟩
  · rw [h.2.1.block k (Nat.lt_of_lt_of_le h1 hb.size) h2, hb.block k h1]
  · rcases h.2.2 with h2 | h2
    · exact .inl h2
    · exact .inr ⟨_, h2, hb.size⟩

set_option maxRecDepth 100000 in
set_option maxHeartbeats 4000000 in
theorem nput_any (A : Option Addr) (n c base : Nat) (L : List CL) (x : CL) (w : World) (ho : NO w base (.slice A n c) n L) (hu : CUp L) (hn : n ≤ 4000) (hb : base ≤ w.heap.size) :
    Calls Try.prog 47 #[.slice A n c, cv x] w fun e w' => ∃ v', e = .returned v' ∧ NO w' base v' (cput L x).length (cput L x) ∧ w.grownBy w' (Value.slice A n c).ownBlock ∧ (v'.ownBlock = (Value.slice A n c).ownBlock ∨ ∃ k, v'.ownBlock = some k ∧ w.heap.size ≤ k) := by
  have hl := no_len ho
  have hc := no_le ho
  have HF := Lib.hid (fun W (hb : Below w.heap.size w W) => nfind_any A n c x.n L W ((no_read ho).later hb) hl hu (by omega))
  have HO := Lib.hid (fun W (hb : Below w.heap.size w W) => no_later ho hb)
  have HK : Hid (∀ k, (Value.slice A n c).ownBlock = some k → base ≤ k ∧ k < w.heap.size) := Lib.hid fun k hk => no_lt ho hk
  have HI : Hid (∀ p, CPos L x.n p → p < n ∧ nk L p = x.n → cput L x = L.take p ++ (if x.s = 0 then [] else [x]) ++ L.drop (p + 1)) := Lib.hid fun p h1 h2 => h1.put_in hu (by omega) h2.2
  have HX : Hid (∀ p, CPos L x.n p → ¬ (p < n ∧ nk L p = x.n) → cput L x = L.take p ++ (if x.s = 0 then [] else [x]) ++ L.drop p) := Lib.hid fun p h1 h2 => h1.put_out hu (fun h => h2 ⟨by omega, h.2⟩)
  have HE : Hid (∀ W : World, Below w.heap.size w W → base ≤ W.heap.size) := Lib.hid fun W h => by have := h.size; omega
  have HQ : Hid (∀ p, CPos L x.n p → p ≤ n) := Lib.hid fun p h => by have := h.1; omega
  have HL := Lib.hid hl
  have HHO := Lib.hid ho
  clear ho hu hb hl
  by_cases h0 : x.s = 0
  · rw [if_pos h0] at HI HX
    have HZ := Lib.hid h0
    go_enter Try.func47, Try.ntmps47
    go_wp2_with fail
    refine (HF.out _ (ba (Below.refl _ _) _)).mono ?_
    rintro e w1 ⟨p, b, hp, hq, rfl, hb1⟩
    obtain ⟨r0, s0⟩ := At.later (v := vu x.n) (b := w.heap.size) (o := 0) ⟨by go_simp, by go_simp⟩ hb1
    obtain ⟨r1, s1⟩ := At.later (v := .int .i64 x.s) (b := w.heap.size) (o := 1) ⟨by go_simp, by go_simp⟩ hb1
    obtain ⟨r2, s2⟩ := At.later (v := sv x.d) (b := w.heap.size) (o := 2) ⟨by go_simp, by go_simp⟩ hb1
    have HB := Lib.hid (bt (ba (Below.refl w.heap.size w) _) hb1)
    have HP := Lib.hid hp
    have HPQ := Lib.hid hq
    have hpn := HQ.out p hp
    have hw1 : IntKind.i64.wrap ((p : Int) + 1) = (p : Int) + 1 := by rw [IntKind.wrap_i64]; omega
    clear hb1 hp hq
    cases b with
    | true =>
      obtain ⟨q, rfl⟩ : ∃ q, n = q + 1 := ⟨n - 1, by have := (HPQ.out.1 rfl).1; omega⟩
      have HD := Lib.hid (fun W hb2 => ndel_one A q c p base L W (no_later (HO.out w1 HB.out) hb2) (by have := (HPQ.out.1 rfl).1; omega) (by omega))
      have HR : Hid (L.take p ++ L.drop (p + 1) = cput L x) := Lib.hid (by rw [HI.out p HP.out (HPQ.out.1 rfl), List.append_nil])
      go_wp2_with fail
      refine (HD.out _ (Below.refl _ _)).mono ?_
      rintro e w2 ⟨v', rfl, hst⟩
      rw [HR.out] at hst
      have hfin := hst.back HB.out
      have HFin := Lib.hid hfin
      clear hfin hst
      go_wp2
      go_ret
      exact ⟨v', rfl, HFin.out⟩
    | false =>
      have HR : Hid (L = cput L x) := Lib.hid (by rw [HX.out p HP.out (fun h => by have := HPQ.out.2 h; cases this), List.append_nil, List.take_append_drop])
      have HD := Lib.hid (fun W => ndel_none A n c p W hpn hc)
      go_wp2_with fail
      refine (HD.out _).mono ?_
      rintro e w2 ⟨rfl, rfl⟩
      go_wp2
      go_ret
      refine ⟨_, rfl, ?_, ⟨HB.out.os, HB.out.tape, HB.out.output, HB.out.size, fun k h1 _ => HB.out.block k h1⟩, .inl rfl⟩
      rw [← HR.out, HL.out]
      exact HO.out _ HB.out
  · rw [if_neg h0] at HI HX
    have h0' : (x.s == 0) = false := by simpa using h0
    go_enter Try.func47, Try.ntmps47
    go_wp2_with fail
    refine (HF.out _ (ba (Below.refl _ _) _)).mono ?_
    rintro e w1 ⟨p, b, hp, hq, rfl, hb1⟩
    obtain ⟨r0, s0⟩ := At.later (v := vu x.n) (b := w.heap.size) (o := 0) ⟨by go_simp, by go_simp⟩ hb1
    obtain ⟨r1, s1⟩ := At.later (v := .int .i64 x.s) (b := w.heap.size) (o := 1) ⟨by go_simp, by go_simp⟩ hb1
    obtain ⟨r2, s2⟩ := At.later (v := sv x.d) (b := w.heap.size) (o := 2) ⟨by go_simp, by go_simp⟩ hb1
    have HB := Lib.hid (bt (ba (Below.refl w.heap.size w) _) hb1)
    have HP := Lib.hid hp
    have HPQ := Lib.hid hq
    have hpn := HQ.out p hp
    have hw1 : IntKind.i64.wrap ((p : Int) + 1) = (p : Int) + 1 := by rw [IntKind.wrap_i64]; omega
    clear hb1 hp hq
    have HB2 := Lib.hid (ba HB.out (.cells (ccells [x]).toArray 45))
    have HV : Hid (Blk (w1.alloc (.cells (ccells [x]).toArray 45)) w1.heap.size 45 (ccells [x]).toArray) := Lib.hid (Blk.new _ _ _)
    have HNE : Hid ((Value.slice A n c).ownBlock ≠ some w1.heap.size) := Lib.hid fun h => by
      have h2 := (HK.out _ h).2
      have h3 := HB.out.size
      omega
    cases b with
    | true =>
      obtain ⟨q, rfl⟩ : ∃ q, n = q + 1 := ⟨n - 1, by have := (HPQ.out.1 rfl).1; omega⟩
      have HD := Lib.hid (fun vc => nrep_one A q c p w1.heap.size vc base L x _ (HO.out _ HB2.out) HV.out HNE.out (by have := (HPQ.out.1 rfl).1; omega) (by omega))
      have HR : Hid (L.take p ++ [x] ++ L.drop (p + 1) = cput L x) := Lib.hid (HI.out p HP.out (HPQ.out.1 rfl)).symm
      go_wp2_with fail
      refine (HD.out _).mono ?_
      rintro e w2 ⟨v', rfl, hst⟩
      rw [HR.out] at hst
      have hfin := hst.back HB2.out
      have HFin := Lib.hid hfin
      clear hfin hst
      go_wp2
      go_ret
      exact ⟨v', rfl, HFin.out⟩
    | false =>
      have HD := Lib.hid (fun vc => nrep_ins A n c p w1.heap.size vc base L x _ (HO.out _ HB2.out) HV.out HNE.out hpn hc hn (HE.out _ HB2.out))
      have HR : Hid (L.take p ++ [x] ++ L.drop p = cput L x) := Lib.hid (HX.out p HP.out (fun h => by have := HPQ.out.2 h; cases this)).symm
      go_wp2_with fail
      refine (HD.out _).mono ?_
      rintro e w2 ⟨v', rfl, hst⟩
      rw [HR.out] at hst
      have hfin := hst.back HB2.out
      have HFin := Lib.hid hfin
      clear hfin hst
      go_wp2
      go_ret
      exact ⟨v', rfl, HFin.out⟩
end Go.Proofs.Ytbecambkjmheiaa
