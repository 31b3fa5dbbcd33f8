/- Texts of this seat, one behind the other: NIns, NInsR, NInsG, NDel. -/
import Derived.Lib.Overlaps
import Derived.Laws.Externs
import Derived.Shelf.RegionOpenPlain
import Derived.Test.YtbecambkjmheiaaQ02
import Derived.Test.YtbecambkjmheiaaQ03
/- The contract of slices.Insert over a row of cells that the call owns. -/
namespace Go.Proofs.Ytbecambkjmheiaa
open Go.RowKit Go.Lib

/-- A row of cells that the call owns. -/
abbrev NO (w : World) (base : Nat) (v : Value) (n : Nat) (L : List CL) : Prop := w.ownsRow base 45 3 v n (ccells L)
/-- What a change of such a row leaves. -/
def NStep (w w' : World) (base : Nat) (v v' : Value) (L' : List CL) : Prop :=
  NO w' base v' L'.length L' ∧ w.grownBy w' v.ownBlock ∧ (v'.ownBlock = v.ownBlock ∨ v'.ownBlock = some w.heap.size)
theorem grownBy_drew {w w' : World} {row : Option Nat} (h : w.drew.grownBy w' row) : w.grownBy w' row := ⟨h.os, h.tape, h.output, h.size, h.block⟩
theorem grownBy_alloc_any {w w' : World} {row : Option Nat} (h : w.grownBy w' row) (o : Obj) : w.grownBy (w'.alloc o) row :=
  ⟨h.os, h.tape, h.output, by have := h.size; simp; omega, fun k hk hn => (heap_alloc_old w' o (by have := h.size; omega)).trans (h.block k hk hn)⟩
theorem no_len {w : World} {base n : Nat} {v : Value} {L : List CL} (h : NO w base v n L) : L.length = n := by
  have := h.1
  rw [ccells_len] at this
  omega
/-- The row's block, whole. -/
theorem no_cur {w : World} {base n c : Nat} {A : Option Addr} {L : List CL} (h : NO w base (.slice A n c) n L) :
    (A = none ∧ n = 0 ∧ c = 0 ∧ L = []) ∨ ∃ g R, A = some ⟨g, 0, none⟩ ∧ base ≤ g ∧ Blk w g 45 (ccells L ++ R).toArray ∧ n ≤ c ∧ c ≤ maxLen ∧ R.length = (c - n) * 3 := by
  have hl := no_len h
  rcases h.2 with ⟨h1, h2⟩ | ⟨g, cap, cur, hv, hg, hh, h1, h2, h3, h4⟩
  · cases h1
    exact .inl ⟨rfl, rfl, rfl, List.eq_nil_of_length_eq_zero hl⟩
  · injection hv with e1 e2 e3
    subst e3
    have hc : cur = (ccells L ++ cur.toList.drop (n * 3)).toArray := by
      rw [← h4, List.take_append_drop]
    refine .inr ⟨g, cur.toList.drop (n * 3), e1, hg, ?_, h1, h2, ?_⟩
    · rw [← hc]; exact hh
    · simp [h3, Nat.sub_mul]
theorem no_of {w : World} {base n c g : Nat} {L : List CL} {R : List Value} (hg : base ≤ g) (hb : Blk w g 45 (ccells L ++ R).toArray) (hl : L.length = n) (hn : n ≤ c) (hc : c ≤ maxLen) (hR : R.length = (c - n) * 3) :
    NO w base (.slice (some ⟨g, 0, none⟩) n c) n L := by
  refine ⟨by rw [ccells_len, hl], .inr ⟨g, c, _, rfl, hg, hb, hn, hc, ?_, ?_⟩⟩
  · simp [ccells_len, hl, hR, Nat.sub_mul]
    have : n * 3 ≤ c * 3 := by omega
    omega
  · have : (ccells L).length = n * 3 := by rw [ccells_len, hl]
    rw [← this]
    exact List.take_left

theorem infoNz : ∀ w, (zeroValue 45).run Try.prog w = .ok (.agg #[.int .u64 0, .int .i64 0, .string ⟨#[]⟩]) w := by
  obtain ⟨ti, hi0, hz0, hz1, hz2⟩ := info_parts infoN
  intro w
  simp [zeroValue, typeInfo, hi0, hz0]
theorem sizeNz : (Try.prog.info? 45).map (·.size) = some 3 := by kernel_rfl

set_option maxHeartbeats 4000000 in
set_option maxRecDepth 100000 in
/-- At the end. -/
theorem nins_end (A : Option Addr) (n c vb m vc base : Nat) (L V : List CL) (w : World) (ho : NO w base (.slice A n c) n L) (hV : Blk w vb 45 (ccells V).toArray) (hm : V.length = m) (h0 : 0 < m) (hn : n + m ≤ 4096) (hb : base ≤ w.heap.size) :
    Calls Try.prog 76 #[.slice A n c, .int .i64 (n : Int), .slice (some ⟨vb, 0, none⟩) m vc] w fun e w' => ∃ v', e = .returned v' ∧ NStep w w' base (.slice A n c) v' (L ++ V) := by
  obtain ⟨ti, hi, hz0, hz1, hz2⟩ := info_parts infoN
  have hln := no_len ho
  obtain ⟨v', w', hr, k1, k2, _, k4⟩ := run_append_own_at (P := Try.prog) w base 22 22 45 ti _ 3 32 Try.underlying22 hi hz0 hz1 hz2 rfl (by decide) (.slice A n c) n (ccells L) ho ⟨vb, 0, none⟩ m vc (ccells V) (by rw [ccells_len, hm])
    (fun j u hj => by rw [Addr.add_lit, Nat.zero_add, hV.cell, List.getElem?_toArray]; exact hj) (ccells_one V) (by unfold maxLen; omega) (by omega) hb
  have hz : ¬ ((m : Int) = 0) := by omega
  have hnc : n ≤ c := by
    rcases no_cur ho with ⟨_, h1, h2, _⟩ | ⟨_, _, _, _, _, h1, _⟩ <;> omega
  have HS : Hid (NStep w w' base (.slice A n c) v' (L ++ V)) := Lib.hid ⟨by rw [← ccells_more] at k1; rw [List.length_append, hln, hm]; exact k1, k2, k4⟩
  clear k1 k2 k4 ho hV hz2 hz1 hz0 hi
  rcases Nat.eq_or_lt_of_le hnc with hcn | hcn
  · subst hcn
    go_enter Try.func76, Try.ntmps76
    go_wp2_with (at_builtin; refine Lib.wpList_append_run _ rfl _ _ 22 22 rfl _ _ rfl rfl _ _ hr ?_)
    go_ret
    exact ⟨v', rfl, HS.out⟩
  · have hcn2 : ¬ (c = n) := by omega
    go_enter Try.func76, Try.ntmps76
    go_wp2_with (at_builtin; refine Lib.wpList_append_run _ rfl _ _ 22 22 rfl _ _ rfl rfl _ _ hr ?_)
    go_ret
    exact ⟨v', rfl, HS.out⟩
end Go.Proofs.Ytbecambkjmheiaa
/- slices.Insert over a row of cells that the call owns: ahead of others, with room and without. -/
namespace Go.Proofs.Ytbecambkjmheiaa
open Go.RowKit Go.Lib

theorem nins_shift {X Y R V : List Value} {a b : Nat} (hX : X.length = a) (hV : V.length = b) (hR : b ≤ R.length) :
    ∃ R', splice (splice (X ++ (Y ++ R)) (a + b) Y) a V = X ++ (V ++ (Y ++ R')) ∧ R'.length = R.length - b := by
  obtain ⟨M, hM, hMl⟩ : ∃ M, (Y ++ R).take b = M ∧ M.length = b := ⟨_, rfl, by simp; omega⟩
  have e1 : X ++ (Y ++ R) = (X ++ M) ++ (Y ++ R).drop b := by rw [← hM, List.append_assoc, List.take_append_drop]
  have e2 : (Y ++ R).drop b = ((Y ++ R).drop b).take Y.length ++ ((Y ++ R).drop b).drop Y.length := by rw [List.take_append_drop]
  rw [e1, splice_at _ _ _ _ (by simp [hX, hMl]), List.append_assoc, splice_at _ _ _ _ hX, hV]
  rw [show (M ++ (Y ++ ((Y ++ R).drop b).drop Y.length)).drop b = Y ++ ((Y ++ R).drop b).drop Y.length by rw [List.drop_left' hMl]]
  exact ⟨_, rfl, by simp; omega⟩
theorem nins_fill {X Z V Y : List Value} {a b : Nat} (hX : X.length = a) (hV : V.length = b) :
    splice (splice (X ++ Z) a V) (a + b) Y = X ++ (V ++ (Y ++ (Z.drop b).drop Y.length)) := by
  rw [splice_at _ _ _ _ hX, ← List.append_assoc, splice_at _ _ _ _ (by simp [hX, hV]), hV, List.append_assoc]
theorem blk_setRow {w : World} {g : Nat} {t : TypeId} {cs : Array Value} (h : Blk w g t cs) (cs' : Array Value) : Blk (w.setRow g cs') g t cs' := setRow_heap w g cs cs' t (0, 0) h
theorem blk_setRow_far {w : World} {g k : Nat} {t : TypeId} {cs : Array Value} (h : Blk w k t cs) (hk : k ≠ g) (cs' : Array Value) : Blk (w.setRow g cs') k t cs := (setRow_other w g k cs' hk).trans h

set_option maxHeartbeats 4000000 in
set_option maxRecDepth 100000 in
/-- Ahead of others, with room. -/
theorem nins_room (A : Option Addr) (n c i vb m vc base : Nat) (L V : List CL) (w : World) (ho : NO w base (.slice A n c) n L) (hV : Blk w vb 45 (ccells V).toArray) (hvb : (Value.slice A n c).ownBlock ≠ some vb) (hm : V.length = m) (h0 : 0 < m) (hn : n + m ≤ 4096) (hi : i < n) (hroom : n + m ≤ c) :
    Calls Try.prog 76 #[.slice A n c, .int .i64 (i : Int), .slice (some ⟨vb, 0, none⟩) m vc] w fun e w' => ∃ v', e = .returned v' ∧ NStep w w' base (.slice A n c) v' (L.take i ++ V ++ L.drop i) := by
  have hln := no_len ho
  rcases no_cur ho with ⟨_, h1, _, _⟩ | ⟨g, R, rfl, hbg, hB, hnc, hcm, hR⟩
  · omega
  have hne : vb ≠ g := fun e => hvb (by rw [e]; rfl)
  have hX : (ccells (L.take i)).length = i * 3 := by rw [ccells_len, List.length_take, hln]; omega
  have hY : (ccells (L.drop i)).length = (n - i) * 3 := by rw [ccells_len, List.length_drop, hln]
  have hVl : (ccells V).length = m * 3 := by rw [ccells_len, hm]
  have hcur : ccells L ++ R = ccells (L.take i) ++ (ccells (L.drop i) ++ R) := by rw [← List.append_assoc, ← ccells_more, List.take_append_drop]
  obtain ⟨R', hsp, hR'⟩ := nins_shift (Y := ccells (L.drop i)) (R := R) hX hVl (by rw [hR]; omega)
  rw [hcur] at hB
  have hRl : R.length = (c - n) * 3 := hR
  obtain ⟨cur, hcur2⟩ : ∃ cur, ccells (L.take i) ++ (ccells (L.drop i) ++ R) = cur := ⟨_, rfl⟩
  have hcl : cur.length = c * 3 := by rw [← hcur2]; simp [hX, hY, hRl]; omega
  rw [hcur2] at hB hsp
  have hsrc : ∀ j v, (ccells (L.drop i))[j]? = some v → w.drew.cell? ((⟨g, i * 3, none⟩ : Addr).add j) = some v := fun j v hj => by
    rw [Addr.add_lit, (Blk.drew hB).cell, List.getElem?_toArray, ← hcur2, List.getElem?_append_right (by omega), List.getElem?_append_left (by
      have := (List.getElem?_eq_some_iff.1 hj).1; omega), hX, Nat.add_sub_cancel_left]
    exact hj
  have hcp1 : ∀ ty dc sc, (Builtin.copy_ #[22, 22] ty #[.slice (some ⟨g, (i + m) * 3, none⟩) (n + m - (i + m)) dc, .slice (some ⟨g, i * 3, none⟩) (n + m - i) sc]).run Try.prog w.drew = .ok (goInt ((n - i : Nat) : Int)) (w.drew.setRow g (splice cur ((i + m) * 3) (ccells (L.drop i))).toArray) := fun ty dc sc => by
    have := copyN_row (P := Try.prog) w.drew 22 22 ty 45 3 (n - i) g ((i + m) * 3) (n + m - (i + m)) dc ⟨g, i * 3, none⟩ (n + m - i) sc cur.toArray 45 (ccells (L.drop i)) Try.underlying22 sizeNz (Blk.drew hB) (by simp only [Nat.min_def]; split <;> omega) hY hsrc (by simp [hcl, hY]; omega) (ccells_one _)
    simpa using this
  obtain ⟨W1, hW1⟩ : ∃ W1, W1 = w.drew.setRow g (splice cur ((i + m) * 3) (ccells (L.drop i))).toArray := ⟨_, rfl⟩
  have hB1 : Blk W1 g 45 (splice cur ((i + m) * 3) (ccells (L.drop i))).toArray := by rw [hW1]; exact blk_setRow (Blk.drew hB) _
  have hV1 : Blk W1 vb 45 (ccells V).toArray := by rw [hW1]; exact blk_setRow_far (Blk.drew hV) hne _
  have hG1 : w.grownBy W1 (some g) := by rw [hW1]; exact grownBy_drew (grownBy_setRow _ _ _)
  rw [← hW1] at hcp1
  have hl1 : (splice cur ((i + m) * 3) (ccells (L.drop i))).length = c * 3 := by rw [length_splice _ _ _ (by rw [hcl, hY]; omega), hcl]
  have hmm : (i + m) * 3 = i * 3 + m * 3 := by omega
  rw [hmm] at hB1 hl1
  have hcp2 : ∀ (W : World), W.heap = W1.heap → ∀ ty dc, (Builtin.copy_ #[22, 22] ty #[.slice (some ⟨g, i * 3, none⟩) (n + m - i) dc, .slice (some ⟨vb, 0, none⟩) m vc]).run Try.prog W = .ok (goInt m) (W.setRow g (ccells (L.take i) ++ (ccells V ++ (ccells (L.drop i) ++ R'))).toArray) := fun W hW ty dc => by
    have := copyN_row (P := Try.prog) W 22 22 ty 45 3 m g (i * 3) (n + m - i) dc ⟨vb, 0, none⟩ m vc (splice cur (i * 3 + m * 3) (ccells (L.drop i))).toArray 45 (ccells V) Try.underlying22 sizeNz (by rw [hW]; exact hB1) (by simp only [Nat.min_def]; split <;> omega) hVl
      (fun j v hj => by rw [Addr.add_lit, Nat.zero_add, Blk.cell (show Blk W vb 45 (ccells V).toArray from (by unfold Blk; rw [hW]; exact hV1)), List.getElem?_toArray]; exact hj) (by simp [hl1, hVl]; omega) (ccells_one _)
    rw [this]
    simp only [hsp]
  have HF : Hid (∀ W : World, W.heap = W1.heap → W.os = W1.os → W.tape = W1.tape → W.output = W1.output → NStep w (W.setRow g (ccells (L.take i) ++ (ccells V ++ (ccells (L.drop i) ++ R'))).toArray) base (.slice (some ⟨g, 0, none⟩) n c) (.slice (some ⟨g, 0, none⟩) (n + m) c) (L.take i ++ V ++ L.drop i)) := Lib.hid fun W hW q1 q2 q3 => by
    have hbl : Blk W g 45 (splice cur (i * 3 + m * 3) (ccells (L.drop i))).toArray := by unfold Blk; rw [hW]; exact hB1
    have hll : (L.take i ++ V ++ L.drop i).length = n + m := by simp [hln, hm]; omega
    refine ⟨?_, ?_, .inl rfl⟩
    · rw [hll]
      refine no_of (R := R') hbg ?_ hll hroom hcm (by rw [hR', hRl]; omega)
      rw [ccells_more, ccells_more, List.append_assoc, List.append_assoc]
      exact blk_setRow hbl _
    · have hg2 : w.grownBy W (some g) := ⟨q1.trans hG1.os, q2.trans hG1.tape, q3.trans hG1.output, by rw [hW]; exact hG1.size, fun k h1 h2 => by rw [hW]; exact hG1.block k h1 h2⟩
      exact hg2.trans (grownBy_setRow _ _ _)
  have hov : ∀ lb cb, (callFunc 77 #[.slice (some ⟨vb, 0, none⟩) m vc, .slice (some ⟨g, (i + m) * 3, none⟩) lb cb]).run Try.prog w = .ok (.value (.bool false)) w := fun lb cb => by
    have hsa : w.shape? vb = some (45, (ccells V).toArray.size) := by simp [World.shape?, show w.heap[vb]? = _ from hV]
    have hsb : w.shape? g = some (45, cur.toArray.size) := by simp [World.shape?, show w.heap[g]? = _ from hB]
    rw [run_callFunc_extern Try.func77 (by kernel_rfl) (by kernel_rfl) (by kernel_rfl) (e := Extern.SlicesOverlaps.overlaps #[22, 22] #[4]) (by kernel_rfl),
      Lib.run_overlaps_apart w 22 4 45 Try.underlying22 3 (by
        obtain ⟨ti, hi0, hz0, hz1, hz2⟩ := info_parts infoN
        intro w
        simp [sizeOf, typeInfo, hi0, hz1]) ⟨vb, 0, none⟩ ⟨g, (i + m) * 3, none⟩ m vc lb cb hne 45 45 _ _ hsa hsb (by simp [hcl]; omega) (hV.frozen _) (hV.frozen _)]
    rfl
  have hz1 : ¬ ((m : Int) = 0) := by omega
  have hz2 : ¬ ((i : Int) = (n : Int)) := by omega
  have hw1 : IntKind.i64.wrap ((i : Int) + (m : Int)) = (i : Int) + (m : Int) := by rw [IntKind.wrap_i64]; omega
  have hb1 : (0 : Int) ≤ (i : Int) + (m : Int) := by omega
  have hin : i ≤ n := by omega
  have htn : ((i : Int) + (m : Int)).toNat = i + m := by omega
  have hb2 : ¬ (c = i + m) := by omega
  have hb3 : (i : Int) ≤ (n : Int) + (m : Int) := by omega
  have hb4 : ¬ (c = i) := by omega
  have mixed : Try.prog.follows Departure.mixedOrders = true := by kernel_rfl
  clear ho hvb hV1 hB1 hB hV hG1 hW1 hsp hcur hcur2 hsrc hX hY hVl hl1 hcl hRl hR hR' hmm
  go_enter Try.func76, Try.ntmps76
  go_wp2_with (simp only [hov])
  go_region_law_o (refine step_copy_run' rfl _ _ 22 22 rfl _ _ (by simp [Act.eval, Act.put]) (by simp [Act.eval, Act.put]) (hcp1 _ _ _) ?_)
  go_wp2_with (at_builtin; refine wpList_copy_run' _ rfl _ _ 22 22 rfl _ _ rfl rfl (hcp2 _ rfl _ _) ?_)
  go_ret
  exact ⟨_, rfl, HF.out _ rfl rfl rfl rfl⟩
end Go.Proofs.Ytbecambkjmheiaa
/- slices.Insert over a row of cells that the call owns: ahead of others, without room. -/
namespace Go.Proofs.Ytbecambkjmheiaa
open Go.RowKit Go.Lib

set_option maxHeartbeats 4000000 in
set_option maxRecDepth 100000 in
/-- Ahead of others, without room. -/
theorem nins_grow (A : Option Addr) (n c i vb m vc base : Nat) (L V : List CL) (w : World) (ho : NO w base (.slice A n c) n L) (hV : Blk w vb 45 (ccells V).toArray) (hm : V.length = m) (h0 : 0 < m) (hn : n + m ≤ 4096) (hi : i < n) (hroom : c < n + m) (hb : base ≤ w.heap.size) :
    Calls Try.prog 76 #[.slice A n c, .int .i64 (i : Int), .slice (some ⟨vb, 0, none⟩) m vc] w fun e w' => ∃ v', e = .returned v' ∧ NStep w w' base (.slice A n c) v' (L.take i ++ V ++ L.drop i) := by
  have hln := no_len ho
  rcases no_cur ho with ⟨_, h1, _, _⟩ | ⟨g, R, rfl, hbg, hB, hnc, hcm, hR⟩
  · omega
  obtain ⟨ti, hi0, hz0, hz1, hz2⟩ := info_parts infoN
  have hX : (ccells (L.take i)).length = i * 3 := by rw [ccells_len, List.length_take, hln]; omega
  have hY : (ccells (L.drop i)).length = (n - i) * 3 := by rw [ccells_len, List.length_drop, hln]
  have hVl : (ccells V).length = m * 3 := by rw [ccells_len, hm]
  have hcur : ccells L ++ R = ccells (L.take i) ++ (ccells (L.drop i) ++ R) := by rw [← List.append_assoc, ← ccells_more, List.take_append_drop]
  rw [hcur] at hB
  obtain ⟨z, hz⟩ : ∃ z : Value, z = .agg #[.int .u64 0, .int .i64 0, .string ⟨#[]⟩] := ⟨_, rfl⟩
  have hzc : z.cells.size = 3 := by rw [hz]; rfl
  have hap0 := fun ty => appendZ_grow (P := Try.prog) w 22 3 ty 45 ti _ .i64 .i64 Try.underlying22 Try.underlying3 hi0 hz0 ⟨g, 0, none⟩ i c (ccells (L.take i)) (by rw [hz1, hX]) (fun j v hj => by
      rw [Addr.add_lit, Nat.zero_add, hB.cell, List.getElem?_toArray, List.getElem?_append_left (List.getElem?_eq_some_iff.1 hj).1]
      exact hj) (n + m - i) (by omega) (by omega) (by omega) (by omega) (by omega)
  rw [← hz] at hap0
  rw [show i + (n + m - i) = n + m by omega] at hap0
  obtain ⟨C, hC⟩ : ∃ C, grownCap w (n + m) c 45 = C := ⟨_, rfl⟩
  have hC1 : n + m ≤ C := by rw [← hC]; exact grownCap_ge _ _ _ _
  have hC2 : C ≤ maxLen := by rw [← hC]; exact grownCap_le_maxLen _ _ _ _ (by unfold maxLen; omega)
  rw [hC] at hap0
  obtain ⟨Z, hZ⟩ : ∃ Z, Z = (Builtin.zeroCells z.cells (n + m - i)).toList ++ (Builtin.zeroCells z.cells (C - (n + m))).toList := ⟨_, rfl⟩
  have hZl : Z.length = (C - i) * 3 := by rw [hZ]; simp [zeroCells_len, hzc]; omega
  obtain ⟨W1, hW1⟩ : ∃ W1, W1 = w.drew.alloc (.cells (ccells (L.take i) ++ Z).toArray 45) := ⟨_, rfl⟩
  have hap : ∀ ty, (Builtin.append_ #[22, 3] ty #[.slice (some ⟨g, 0, none⟩) i c, .int .i64 ((n : Int) + (m : Int) - (i : Int))]).run Try.prog w = .ok (.slice (some ⟨w.heap.size, 0, none⟩) (n + m) C) W1 := fun ty => by
    have h9 := hap0 ty
    rw [show ((n + m - i : Nat) : Int) = (n : Int) + (m : Int) - (i : Int) by omega] at h9
    rw [h9, hW1, hZ]
    congr 3
    simp
  clear hap0
  have hk : w.heap.size = w.heap.size := rfl
  obtain ⟨k, hk⟩ : ∃ k, w.heap.size = k := ⟨_, rfl⟩
  have hB1 : Blk W1 k 45 (ccells (L.take i) ++ Z).toArray := by rw [hW1, ← hk]; exact Blk.new w.drew _ _
  have hV1 : Blk W1 vb 45 (ccells V).toArray := by rw [hW1]; exact (Blk.drew hV).alloc _
  have hS1 : Blk W1 g 45 (ccells (L.take i) ++ (ccells (L.drop i) ++ R)).toArray := by rw [hW1]; exact (Blk.drew hB).alloc _
  have hG1 : w.grownBy W1 (some g) := by rw [hW1]; exact grownBy_drew (World.grownBy_alloc _ _ _)
  have hvk : vb ≠ k := by have := hV.lt; omega
  have hgk : g ≠ k := by have := hB.lt; omega
  obtain ⟨W2, hW2⟩ : ∃ W2, W2 = W1.setRow k (splice (ccells (L.take i) ++ Z) (i * 3) (ccells V)).toArray := ⟨_, rfl⟩
  have hcp1 : ∀ ty dc, (Builtin.copy_ #[22, 22] ty #[.slice (some ⟨k, i * 3, none⟩) (n + m - i) dc, .slice (some ⟨vb, 0, none⟩) m vc]).run Try.prog W1 = .ok (goInt m) W2 := fun ty dc => by
    have := copyN_row (P := Try.prog) W1 22 22 ty 45 3 m k (i * 3) (n + m - i) dc ⟨vb, 0, none⟩ m vc (ccells (L.take i) ++ Z).toArray 45 (ccells V) Try.underlying22 sizeNz hB1 (by simp only [Nat.min_def]; split <;> omega) hVl
      (fun j v hj => by rw [Addr.add_lit, Nat.zero_add, hV1.cell, List.getElem?_toArray]; exact hj) (by simp only [List.size_toArray, List.length_append, hX, hZl, hVl]; omega) (ccells_one _)
    rw [this, hW2]
  have hB2 : Blk W2 k 45 (splice (ccells (L.take i) ++ Z) (i * 3) (ccells V)).toArray := by rw [hW2]; exact blk_setRow hB1 _
  have hS2 : Blk W2 g 45 (ccells (L.take i) ++ (ccells (L.drop i) ++ R)).toArray := by rw [hW2]; exact blk_setRow_far hS1 hgk _
  have hG2 : w.grownBy W2 (some g) := ⟨by rw [hW2]; exact hG1.os, by rw [hW2]; exact hG1.tape, by rw [hW2]; exact hG1.output, by rw [hW2]; simpa using hG1.size, fun j h1 h2 => by
    rw [hW2, setRow_other W1 k j _ (by omega)]
    exact hG1.block j h1 h2⟩
  have hl2 : (splice (ccells (L.take i) ++ Z) (i * 3) (ccells V)).length = C * 3 := by rw [length_splice _ _ _ (by simp only [List.length_append, hX, hZl, hVl]; omega)]; simp only [List.length_append, hX, hZl]; omega
  have hsp := nins_fill (Z := Z) (Y := ccells (L.drop i)) hX hVl
  obtain ⟨R', hR'⟩ : ∃ R', (Z.drop (m * 3)).drop (ccells (L.drop i)).length = R' := ⟨_, rfl⟩
  rw [hR'] at hsp
  have hR'l : R'.length = (C - (n + m)) * 3 := by rw [← hR']; simp only [List.length_drop, hZl, hY]; omega
  have hcp2 : ∀ ty dc sc, (Builtin.copy_ #[22, 22] ty #[.slice (some ⟨k, (i + m) * 3, none⟩) (n + m - (i + m)) dc, .slice (some ⟨g, i * 3, none⟩) (n - i) sc]).run Try.prog W2.drew = .ok (goInt ((n - i : Nat) : Int)) (W2.drew.setRow k (ccells (L.take i) ++ (ccells V ++ (ccells (L.drop i) ++ R'))).toArray) := fun ty dc sc => by
    have := copyN_row (P := Try.prog) W2.drew 22 22 ty 45 3 (n - i) k (i * 3 + m * 3) (n + m - (i + m)) dc ⟨g, i * 3, none⟩ (n - i) sc (splice (ccells (L.take i) ++ Z) (i * 3) (ccells V)).toArray 45 (ccells (L.drop i)) Try.underlying22 sizeNz (Blk.drew hB2) (by simp only [Nat.min_def]; split <;> omega) hY
      (fun j v hj => by
        rw [Addr.add_lit, (Blk.drew hS2).cell, List.getElem?_toArray, List.getElem?_append_right (by omega), List.getElem?_append_left (by
          have := (List.getElem?_eq_some_iff.1 hj).1; omega), hX, Nat.add_sub_cancel_left]
        exact hj) (by simp only [List.size_toArray, hl2, hY]; omega) (ccells_one _)
    rw [show (i + m) * 3 = i * 3 + m * 3 by omega, this]
    simp only [hsp]
  have HF : Hid (NStep w (W2.drew.setRow k (ccells (L.take i) ++ (ccells V ++ (ccells (L.drop i) ++ R'))).toArray) base (.slice (some ⟨g, 0, none⟩) n c) (.slice (some ⟨k, 0, none⟩) (n + m) C) (L.take i ++ V ++ L.drop i)) := Lib.hid (by
    have hll : (L.take i ++ V ++ L.drop i).length = n + m := by simp [hln, hm]; omega
    refine ⟨?_, ⟨hG2.os, hG2.tape, hG2.output, by simpa using hG2.size, fun j h1 h2 => (setRow_other W2.drew k j _ (by omega)).trans (hG2.block j h1 h2)⟩, .inr (by simp [Value.ownBlock, hk])⟩
    rw [hll]
    refine no_of (R := R') (by omega) ?_ hll hC1 hC2 hR'l
    rw [ccells_more, ccells_more, List.append_assoc, List.append_assoc]
    exact blk_setRow (Blk.drew hB2) _)
  rw [hk] at hap
  have hz1 : ¬ ((m : Int) = 0) := by omega
  have hz2 : ¬ ((i : Int) = (n : Int)) := by omega
  have hw1 : IntKind.i64.wrap ((i : Int) + (m : Int)) = (i : Int) + (m : Int) := by rw [IntKind.wrap_i64]; omega
  have hw2 : IntKind.i64.wrap ((n : Int) + (m : Int)) = (n : Int) + (m : Int) := by rw [IntKind.wrap_i64]; omega
  have hw3 : IntKind.i64.wrap ((n : Int) + (m : Int) - (i : Int)) = (n : Int) + (m : Int) - (i : Int) := by rw [IntKind.wrap_i64]; omega
  have hb0 : (c : Int) < (n : Int) + (m : Int) := by omega
  have hb1 : (0 : Int) ≤ (i : Int) + (m : Int) := by omega
  have hin : i ≤ n := by omega
  have hic : i ≤ c := by omega
  have htn : ((i : Int) + (m : Int)).toNat = i + m := by omega
  have hb2 : ¬ (C = i + m) := by omega
  have hb3 : (i : Int) ≤ (n : Int) + (m : Int) := by omega
  have hb4 : ¬ (c = i) := by omega
  have hb5 : ¬ (C = i) := by omega
  have mixed : Try.prog.follows Departure.mixedOrders = true := by kernel_rfl
  clear ho hV1 hB1 hB hV hG1 hW1 hsp hcur hX hY hVl hR hS1 hB2 hS2 hG2 hl2 hR' hR'l hZ hZl hW2 hC hC2 hz hzc hz0 hi0 hvk hgk
  go_enter Try.func76, Try.ntmps76
  go_wp2_with (at_builtin; first | refine Lib.wpList_append_run _ rfl _ _ 22 3 rfl _ _ rfl rfl _ _ (hap _) ?_ | refine wpList_copy_run' _ rfl _ _ 22 22 rfl _ _ rfl rfl (hcp1 _ _) ?_)
  go_region_law_o (refine step_copy_run' rfl _ _ 22 22 rfl _ _ (by simp [Act.eval, Act.put]) (by simp [Act.eval, Act.put]) (hcp2 _ _ _) ?_)
  go_wp2
  go_ret
  exact ⟨_, rfl, HF.out⟩
end Go.Proofs.Ytbecambkjmheiaa
/- slices.Delete and slices.Replace of one element, over a row of cells that the call owns. -/
namespace Go.Proofs.Ytbecambkjmheiaa
open Go.RowKit Go.Lib

theorem step_append_run' {P : Program} {ops : Array Oper} {o : Oper} {a : Act} {w : World} {K : Act → World → Prop} {Q : Exit → Act → World → Prop} {E : Prop}
    (hg : o.guard = none) (d x : Operand) (dT sT : TypeId) (hop : o.op = Op.call { callee := Callee.builtin Builtin.append, args := #[d, x], argTypes := #[dT, sT] })
    (v u : Value) (hd : a.eval d = v) (hx : a.eval x = u) {v' : Value} {w' : World} (hr : (Builtin.append_ #[dT, sT] o.type #[v, u]).run P w = .ok v' w') (hK : K (a.put o.dst v') w') :
    if Region.wanted o (yielded ops a.tmps) = true then Oper.wp P o a w K Q else E := by
  have hw : Region.wanted o (yielded ops a.tmps) = true := by simp [Region.wanted, hg]
  rw [if_pos hw]
  unfold Oper.wp
  simp [execOp, hop, resolve, invoke, builtin, hd, hx, hr, Result.andThen]
  exact hK
theorem clearN_none {P : Program} (w : World) (t ty e : TypeId) (A : Option Addr) (c : Nat) (ht : P.underlying t = some (.slice e)) : (Builtin.clear_ #[t] ty #[.slice A 0 c]).run P w = .ok (.tuple #[]) w := by
  cases A <;> simp [Builtin.clear_, run_underlying ht]

set_option maxHeartbeats 4000000 in
set_option maxRecDepth 100000 in
theorem ndel_none (A : Option Addr) (n c i : Nat) (w : World) (hi : i ≤ n) (hc : n ≤ c) :
    Calls Try.prog 62 #[.slice A n c, .int .i64 (i : Int), .int .i64 (i : Int)] w fun e w' => e = .returned (.slice A n c) ∧ w' = w := by
  have hsl : ∀ W : World, ∃ A' n' c', (Instr.slice 22 (.slice A n c) (some (.int .i64 (i : Int))) (some (.int .i64 (i : Int))) (some (.int .i64 (n : Int)))).run Try.prog W = .ok (.slice A' n' c') W := fun W => by
    obtain ⟨j, hj⟩ : ∃ j, Try.prog.info? 45 = some j := Option.isSome_iff_exists.1 (by kernel_rfl)
    have hb : (Instr.sliceBounds true n c (some (.int .i64 (i : Int))) (some (.int .i64 (i : Int))) (some (.int .i64 (n : Int)))).run Try.prog W = .ok (i, i, n) W := by
      have h3 : (n : Int) ≤ (c : Int) := by omega
      simp [Instr.sliceBounds, Instr.sliceBound, asIntOf, h3, hi]
    simp [Instr.slice, run_underlying (P := Try.prog) (w := W) Try.underlying22, hb, sizeOf, typeInfo, hj]
  go_enter Try.func62, Try.ntmps62
  obtain ⟨A', n', c', hs⟩ := hsl w
  go_wp2
  go_ret
  exact ⟨rfl, rfl⟩

theorem ndel_put {X D Y R Z : List Value} {a b d : Nat} (hX : X.length = a) (hY : Y.length = b) (hD : D.length = d) (hZ : Z.length = d) :
    ∃ R', splice ((X ++ (D ++ (Y ++ R))).take a ++ Y ++ (X ++ (D ++ (Y ++ R))).drop (a + Y.length)) (a + b) Z = X ++ (Y ++ R') ∧ R'.length = R.length + d := by
  have e1 : (X ++ (D ++ (Y ++ R))).take a = X := by rw [← hX]; exact List.take_left
  rw [e1, splice_at _ _ _ _ (by simp [hX, hY]), List.append_assoc]
  exact ⟨_, rfl, by simp [hX, hY, hZ, hD]; omega⟩
theorem ccells_split {L : List CL} {i : Nat} (h : i < L.length) : ccells L = ccells (L.take i) ++ (ccells [L.getD i default] ++ ccells (L.drop (i + 1))) := by
  rw [← ccells_more, ← ccells_more, cgetD h, List.singleton_append, ← List.drop_eq_getElem_cons h, List.take_append_drop]

set_option maxHeartbeats 4000000 in
set_option maxRecDepth 100000 in
theorem ndel_one (A : Option Addr) (q c i base : Nat) (L : List CL) (w : World) (ho : NO w base (.slice A (q + 1) c) (q + 1) L) (hi : i ≤ q) (hn : q ≤ 4096) :
    Calls Try.prog 62 #[.slice A (q + 1) c, .int .i64 (i : Int), .int .i64 ((i : Int) + 1)] w fun e w' => ∃ v', e = .returned v' ∧ NStep w w' base (.slice A (q + 1) c) v' (L.take i ++ L.drop (i + 1)) := by
  have hln := no_len ho
  rcases no_cur ho with ⟨_, h1, _, _⟩ | ⟨g, R, rfl, hbg, hB, hnc, hcm, hR⟩
  · omega
  have hX : (ccells (L.take i)).length = i * 3 := by rw [ccells_len, List.length_take, hln]; omega
  have hY : (ccells (L.drop (i + 1))).length = (q - i) * 3 := by rw [ccells_len, List.length_drop, hln]; omega
  have hD : (ccells [L.getD i default]).length = 3 := rfl
  obtain ⟨z, hz⟩ : ∃ z : Value, z = .agg #[.int .u64 0, .int .i64 0, .string ⟨#[]⟩] := ⟨_, rfl⟩
  have hzc : z.cells.size = 3 := by rw [hz]; rfl
  have hz1 : ∀ v ∈ z.cells, v.oneCell' = true := by
    rw [hz]; intro v hv; simp [Value.cells] at hv
    rcases hv with rfl | rfl | rfl <;> rfl
  have hZl : (Builtin.zeroCells z.cells 1).toList.length = 3 := by simp [zeroCells_len, hzc]
  rw [ccells_split (L := L) (i := i) (by omega), List.append_assoc, List.append_assoc] at hB
  obtain ⟨R', hsp, hR'⟩ := ndel_put (R := R) hX hY hD hZl
  obtain ⟨cur, hcur⟩ : ∃ cur, ccells (L.take i) ++ (ccells [L.getD i default] ++ (ccells (L.drop (i + 1)) ++ R)) = cur := ⟨_, rfl⟩
  rw [hcur] at hB hsp
  have hcl : cur.length = c * 3 := by rw [← hcur]; simp only [List.length_append, hX, hD, hY, hR]; omega
  obtain ⟨ti, hi0, hzz0, hzz1, hzz2⟩ := info_parts infoN
  obtain ⟨W1, hW1⟩ : ∃ W1, W1 = w.drew.setRow g (cur.take (i * 3) ++ ccells (L.drop (i + 1)) ++ cur.drop (i * 3 + (ccells (L.drop (i + 1))).length)).toArray := ⟨_, rfl⟩
  have hcl1 : (cur.take (i * 3) ++ ccells (L.drop (i + 1)) ++ cur.drop (i * 3 + (ccells (L.drop (i + 1))).length)).length = c * 3 := by simp only [List.length_append, List.length_take, List.length_drop, hcl, hY]; omega
  have hB1 : Blk W1 g 45 (cur.take (i * 3) ++ ccells (L.drop (i + 1)) ++ cur.drop (i * 3 + (ccells (L.drop (i + 1))).length)).toArray := by rw [hW1]; exact blk_setRow (Blk.drew hB) _
  have hG1 : w.grownBy W1 (some g) := by rw [hW1]; exact grownBy_drew (grownBy_setRow _ _ _)
  have hld : (loadCellsFrom ⟨g, (i + 1) * 3, none⟩ 0 ((q - i) * 3) #[]).run Try.prog w.drew = .ok (ccells (L.drop (i + 1))).toArray w.drew := by
    have := run_loadCells_list (P := Try.prog) w.drew ⟨g, (i + 1) * 3, none⟩ (ccells (L.drop (i + 1))) (fun j v hj => by
      rw [Addr.add_lit, (Blk.drew hB).cell, List.getElem?_toArray, ← hcur, List.getElem?_append_right (by omega), List.getElem?_append_right (by omega), List.getElem?_append_left (by
        have := (List.getElem?_eq_some_iff.1 hj).1; omega), hX, hD]
      rw [show (i + 1) * 3 + j - i * 3 - 3 = j by omega]
      exact hj)
    rw [hY] at this
    exact this
  have hst : (storeCells ⟨g, i * 3, none⟩ (ccells (L.drop (i + 1)))).run Try.prog w.drew = .ok () W1 := by
    have := run_storeCells_at Try.prog g (i * 3) 45 (ccells (L.drop (i + 1))) 0 cur.toArray w.drew (Blk.drew hB) (by simp only [List.size_toArray, hcl, hY]; omega) (ccells_one _)
    rw [this, hW1]
    simp
  have hself : i = q → W1 = w.drew := fun e => by
    rw [hW1, show (cur.take (i * 3) ++ ccells (L.drop (i + 1)) ++ cur.drop (i * 3 + (ccells (L.drop (i + 1))).length)) = cur by
      rw [List.eq_nil_of_length_eq_zero (l := ccells (L.drop (i + 1))) (by omega)]; simp]
    exact setRow_self w.drew g _ _ _ (Blk.drew hB)
  have hcle : ∀ W : World, W.heap = W1.heap → ∀ ty sc, (Builtin.clear_ #[22] ty #[.slice (some ⟨g, q * 3, none⟩) 1 sc]).run Try.prog W = .ok (.tuple #[]) (W.setRow g (ccells (L.take i) ++ (ccells (L.drop (i + 1)) ++ R')).toArray) := fun W hW ty sc => by
    have := clearN_row (P := Try.prog) W 22 ty 45 z Try.underlying22 (by rw [hz]; exact infoNz) g (q * 3) 1 sc (by omega) _ 45 (by rw [hW]; exact hB1) (by simp only [List.size_toArray, hcl1, hzc]; omega) hz1
    rw [this]
    have e : i * 3 + (q - i) * 3 = q * 3 := by omega
    rw [e] at hsp
    simp only [hsp]
  have HF : Hid (∀ W : World, W.heap = W1.heap → W.os = W1.os → W.tape = W1.tape → W.output = W1.output → NStep w (W.setRow g (ccells (L.take i) ++ (ccells (L.drop (i + 1)) ++ R')).toArray) base (.slice (some ⟨g, 0, none⟩) (q + 1) c) (.slice (some ⟨g, 0, none⟩) q c) (L.take i ++ L.drop (i + 1))) := Lib.hid fun W hW q1 q2 q3 => by
    have hll : (L.take i ++ L.drop (i + 1)).length = q := by simp [hln]; omega
    have hbl : Blk W g 45 (cur.take (i * 3) ++ ccells (L.drop (i + 1)) ++ cur.drop (i * 3 + (ccells (L.drop (i + 1))).length)).toArray := by unfold Blk; rw [hW]; exact hB1
    refine ⟨?_, ?_, .inl rfl⟩
    · rw [hll]
      refine no_of (R := R') hbg ?_ hll (by omega) hcm (by rw [hR', hR]; omega)
      rw [ccells_more, List.append_assoc]
      exact blk_setRow hbl _
    · have hg2 : w.grownBy W (some g) := ⟨q1.trans hG1.os, q2.trans hG1.tape, q3.trans hG1.output, by rw [hW]; exact hG1.size, fun k h1 h2 => by rw [hW]; exact hG1.block k h1 h2⟩
      exact hg2.trans (grownBy_setRow _ _ _)
  have hne : ¬ ((i : Int) = (i : Int) + 1) := by omega
  have hne2 : ¬ (c = q) := by omega
  have hic : i ≤ c := by omega
  have h63 : c ≤ 9223372036854775807 := hcm
  have hq0 : (0 : Int) ≤ (i : Int) + 1 := by omega
  have hq1 : ((i : Int) + 1).toNat = i + 1 := by omega
  have hq2 : (i : Int) ≤ (q : Int) := by omega
  have hq5 : (i : Int) ≤ (i : Int) + 1 := by omega
  have hqc : q ≤ c := by omega
  have hqi : i + (q - i) = q := by omega
  have hq3 : (q : Int) + 1 ≤ (c : Int) := by omega
  have hw1 : IntKind.i64.wrap ((q : Int) + 1) = (q : Int) + 1 := by rw [IntKind.wrap_i64]; omega
  have mixed : Try.prog.follows Departure.mixedOrders = true := by kernel_rfl
  clear ho hB hB1 hG1 hW1 hsp hcur hX hY hD hR hR' hZl hcl hcl1 hz hzc hz1 hzz0 hi0 hzz1 hzz2 ti
  rcases Nat.eq_or_lt_of_le hi with e | hlt
  · have h9 := hself e
    clear hself hld hst
    subst e
    subst h9
    rcases Nat.eq_or_lt_of_le hnc with e2 | e2
    · subst e2
      go_enter Try.func62, Try.ntmps62
      go_wp2
      go_region
      go_wp2_with (at_builtin; refine wpList_clear_run _ rfl _ 22 rfl _ rfl _ _ (hcle _ rfl _ _) ?_)
      go_ret
      exact ⟨_, rfl, HF.out _ rfl rfl rfl rfl⟩
    · have hne3 : ¬ (c = i + 1) := by omega
      go_enter Try.func62, Try.ntmps62
      go_wp2
      go_region
      go_wp2_with (at_builtin; refine wpList_clear_run _ rfl _ 22 rfl _ rfl _ _ (hcle _ rfl _ _) ?_)
      go_ret
      exact ⟨_, rfl, HF.out _ rfl rfl rfl rfl⟩
  · clear hself
    have hne3 : ¬ (c = i + 1) := by omega
    have hi1 : i + 1 ≤ q + 1 := by omega
    have hq4 : (i : Int) + 1 ≤ (q : Int) + 1 := by omega
    generalize ccells (L.drop (i + 1)) = Y at *
    go_enter Try.func62, Try.ntmps62
    go_wp2
    go_region
    go_wp2_with (at_builtin; refine wpList_clear_run _ rfl _ 22 rfl _ rfl _ _ (hcle _ rfl _ _) ?_)
    go_ret
    exact ⟨_, rfl, HF.out _ rfl rfl rfl rfl⟩
end Go.Proofs.Ytbecambkjmheiaa
