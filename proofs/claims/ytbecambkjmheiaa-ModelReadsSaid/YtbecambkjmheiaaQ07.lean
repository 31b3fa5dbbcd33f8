/- Texts of this seat, one behind the other: NRep, NFind, NPut, NLeaf. -/
import Derived.BigQuiet
import Derived.Test.YtbecambkjmheiaaQ03
import Derived.Test.YtbecambkjmheiaaQ04
import Derived.Test.YtbecambkjmheiaaQ06
/- slices.Replace of one element by one, over a row of cells that the call owns. -/
namespace Go.Proofs.Ytbecambkjmheiaa
open Go.RowKit Go.Lib

theorem nrep_mid {X D Y R V : List Value} {a d b : Nat} (hX : X.length = a) (hD : D.length = d) (hV : V.length = d) (hY : Y.length = b) :
    splice (splice (X ++ (D ++ (Y ++ R))) a V) (a + d) Y = X ++ (V ++ (Y ++ R)) := by
  rw [splice_at _ _ _ _ hX, hV, List.drop_left' hD, ← List.append_assoc, splice_at _ _ _ _ (by simp [hX, hV]), hY, List.drop_left' hY, List.append_assoc]

set_option maxHeartbeats 4000000 in
set_option maxRecDepth 100000 in
theorem nrep_one (A : Option Addr) (q c i vb vc base : Nat) (L : List CL) (x : CL) (w : World) (ho : NO w base (.slice A (q + 1) c) (q + 1) L) (hV : Blk w vb 45 (ccells [x]).toArray) (hvb : (Value.slice A (q + 1) c).ownBlock ≠ some vb) (hi : i ≤ q) (hn : q ≤ 4096) :
    Calls Try.prog 63 #[.slice A (q + 1) c, .int .i64 (i : Int), .int .i64 ((i : Int) + 1), .slice (some ⟨vb, 0, none⟩) 1 vc] w fun e w' => ∃ v', e = .returned v' ∧ NStep w w' base (.slice A (q + 1) c) v' (L.take i ++ [x] ++ L.drop (i + 1)) := by
  have hln := no_len ho
  rcases no_cur ho with ⟨_, h1, _, _⟩ | ⟨g, R, rfl, hbg, hB, hnc, hcm, hR⟩
  · omega
  have hne : vb ≠ g := fun e => hvb (by rw [e]; rfl)
  have hX : (ccells (L.take i)).length = i * 3 := by rw [ccells_len, List.length_take, hln]; omega
  have hY : (ccells (L.drop (i + 1))).length = (q - i) * 3 := by rw [ccells_len, List.length_drop, hln]; omega
  have hD : (ccells [L.getD i default]).length = 3 := rfl
  have hVl : (ccells [x]).length = 3 := rfl
  rw [ccells_split (L := L) (i := i) (by omega), List.append_assoc, List.append_assoc] at hB
  have hsp := nrep_mid (R := R) hX hD hVl hY
  obtain ⟨cur, hcur⟩ : ∃ cur, ccells (L.take i) ++ (ccells [L.getD i default] ++ (ccells (L.drop (i + 1)) ++ R)) = cur := ⟨_, rfl⟩
  rw [hcur] at hB hsp
  have hcl : cur.length = c * 3 := by rw [← hcur]; simp only [List.length_append, hX, hD, hY, hR]; omega
  have hl1 : (splice cur (i * 3) (ccells [x])).length = c * 3 := by rw [length_splice _ _ _ (by rw [hcl, hVl]; omega), hcl]
  obtain ⟨W1, hW1⟩ : ∃ W1, W1 = w.setRow g (splice cur (i * 3) (ccells [x])).toArray := ⟨_, rfl⟩
  have hB1 : Blk W1 g 45 (splice cur (i * 3) (ccells [x])).toArray := by rw [hW1]; exact blk_setRow hB _
  have hG1 : w.grownBy W1 (some g) := by rw [hW1]; exact grownBy_setRow _ _ _
  have hfin : ∀ W : World, Blk W g 45 (ccells (L.take i) ++ (ccells [x] ++ (ccells (L.drop (i + 1)) ++ R))).toArray → w.grownBy W (some g) → NStep w W base (.slice (some ⟨g, 0, none⟩) (q + 1) c) (.slice (some ⟨g, 0, none⟩) (q + 1) c) (L.take i ++ [x] ++ L.drop (i + 1)) := fun W hb hg => by
    have hll : (L.take i ++ [x] ++ L.drop (i + 1)).length = q + 1 := by simp [hln]; omega
    refine ⟨?_, hg, .inl rfl⟩
    rw [hll]
    refine no_of (R := R) hbg ?_ hll (by omega) hcm hR
    rw [ccells_more, ccells_more, List.append_assoc, List.append_assoc]
    exact hb
  have hqc : i + 1 ≤ c := by omega
  have mixed : Try.prog.follows Departure.mixedOrders = true := by kernel_rfl
  have hw1 : IntKind.i64.wrap ((i : Int) + 1) = (i : Int) + 1 := by rw [IntKind.wrap_i64]; omega
  have hne1 : ¬ ((i : Int) = (i : Int) + 1) := by omega
  have hq5 : (i : Int) ≤ (i : Int) + 1 := by omega
  have hq0 : (0 : Int) ≤ (i : Int) + 1 := by omega
  have hq1 : ((i : Int) + 1).toNat = i + 1 := by omega
  have hq2 : (i : Int) ≤ (q : Int) := by omega
  have h63 : c ≤ 9223372036854775807 := hcm
  rcases Nat.eq_or_lt_of_le hi with e | hlt
  · subst e
    have hY0 : ccells (L.drop (i + 1)) = [] := List.eq_nil_of_length_eq_zero (by omega)
    obtain ⟨ti, hi0, hzz0, hzz1, hzz2⟩ := info_parts infoN
    have hap : ∀ ty, (Builtin.append_ #[22, 22] ty #[.slice (some ⟨g, 0, none⟩) i c, .slice (some ⟨vb, 0, none⟩) 1 vc]).run Try.prog w = .ok (.slice (some ⟨g, 0, none⟩) (i + 1) c) W1 := fun ty => by
      have := run_append_room (P := Try.prog) w 22 ty 45 ti Try.underlying22 hi0 g i c cur.toArray hB ⟨vb, 0, none⟩ 1 vc (ccells [x]) (by rw [hzz1]; rfl) (fun j v hj => by
        rw [Addr.add_lit, Nat.zero_add, hV.cell, List.getElem?_toArray]; exact hj) (ccells_one _) (by omega) (by rw [hzz1]; simp only [List.size_toArray, hcl, hVl]; omega)
      rw [this, hW1, hzz1]
      simp [splice]
    have HF : Hid (NStep w W1 base (.slice (some ⟨g, 0, none⟩) (i + 1) c) (.slice (some ⟨g, 0, none⟩) (i + 1) c) (L.take i ++ [x] ++ L.drop (i + 1))) := Lib.hid (hfin W1 (by
      have e9 : splice cur (i * 3) (ccells [x]) = ccells (L.take i) ++ (ccells [x] ++ (ccells (L.drop (i + 1)) ++ R)) := by
        rw [← hcur, splice_at _ _ _ _ hX, hVl, List.drop_left' hD]
      rw [← e9]
      exact hB1) hG1)
    clear ho hB hB1 hG1 hW1 hsp hcur hX hY hD hR hcl hl1 hfin hV hzz0 hzz1 hzz2 hi0 ti hvb hVl hY0
    rcases Nat.eq_or_lt_of_le hnc with e2 | e2
    · subst e2
      go_enter Try.func63, Try.ntmps63
      go_wp2_with (at_builtin; refine Lib.wpList_append_run _ rfl _ _ 22 22 rfl _ _ rfl rfl _ _ (hap _) ?_)
      go_ret
      exact ⟨_, rfl, HF.out⟩
    · have hne3 : ¬ (c = i + 1) := by omega
      have hne4 : ¬ (c = i) := by omega
      go_enter Try.func63, Try.ntmps63
      go_wp2_with (at_builtin; refine Lib.wpList_append_run _ rfl _ _ 22 22 rfl _ _ rfl rfl _ _ (hap _) ?_)
      go_ret
      exact ⟨_, rfl, HF.out⟩
  · have hcp1 : ∀ W : World, W.heap = w.heap → ∀ ty dc, (Builtin.copy_ #[22, 22] ty #[.slice (some ⟨g, i * 3, none⟩) (q + 1 - i) dc, .slice (some ⟨vb, 0, none⟩) 1 vc]).run Try.prog W = .ok (goInt 1) (W.setRow g (splice cur (i * 3) (ccells [x])).toArray) := fun W hW ty dc => by
      have := copyN_row (P := Try.prog) W 22 22 ty 45 3 1 g (i * 3) (q + 1 - i) dc ⟨vb, 0, none⟩ 1 vc cur.toArray 45 (ccells [x]) Try.underlying22 sizeNz (by rw [hW]; exact hB) (by simp only [Nat.min_def]; split <;> omega) rfl
        (fun j v hj => by rw [Addr.add_lit, Nat.zero_add, Blk.cell (show Blk W vb 45 (ccells [x]).toArray from (by unfold Blk; rw [hW]; exact hV)), List.getElem?_toArray]; exact hj) (by simp only [List.size_toArray, hcl, hVl]; omega) (ccells_one _)
      exact this
    have hcp2 : ∀ W : World, W.heap = W1.heap → ∀ ty dc sc, (Builtin.copy_ #[22, 22] ty #[.slice (some ⟨g, (i + 1) * 3, none⟩) (q - i) dc, .slice (some ⟨g, (i + 1) * 3, none⟩) (q - i) sc]).run Try.prog W = .ok (goInt ((q - i : Nat) : Int)) (W.setRow g (ccells (L.take i) ++ (ccells [x] ++ (ccells (L.drop (i + 1)) ++ R))).toArray) := fun W hW ty dc sc => by
      have := copyN_row (P := Try.prog) W 22 22 ty 45 3 (q - i) g (i * 3 + 3) (q - i) dc ⟨g, i * 3 + 3, none⟩ (q - i) sc (splice cur (i * 3) (ccells [x])).toArray 45 (ccells (L.drop (i + 1))) Try.underlying22 sizeNz (by rw [hW]; exact hB1) (by simp only [Nat.min_def]; split <;> omega) hY
        (fun j v hj => by
          have hj2 := (List.getElem?_eq_some_iff.1 hj).1
          rw [Addr.add_lit, Blk.cell (show Blk W g 45 (splice cur (i * 3) (ccells [x])).toArray from (by unfold Blk; rw [hW]; exact hB1)), List.getElem?_toArray, ← hcur, splice_at _ _ _ _ hX, hVl, List.drop_left' hD, List.getElem?_append_right (by omega), List.getElem?_append_right (by omega), List.getElem?_append_left (by omega), hX, hVl]
          rw [show i * 3 + 3 + j - i * 3 - 3 = j by omega]
          exact hj) (by simp only [List.size_toArray, hl1, hY]; omega) (ccells_one _)
      rw [show (i + 1) * 3 = i * 3 + 3 by omega, this]
      simp only [hsp]
    have HF : Hid (∀ W : World, W.heap = W1.heap → W.os = W1.os → W.tape = W1.tape → W.output = W1.output → NStep w (W.setRow g (ccells (L.take i) ++ (ccells [x] ++ (ccells (L.drop (i + 1)) ++ R))).toArray) base (.slice (some ⟨g, 0, none⟩) (q + 1) c) (.slice (some ⟨g, 0, none⟩) (q + 1) c) (L.take i ++ [x] ++ L.drop (i + 1))) := Lib.hid fun W hW q1 q2 q3 => by
      have hbl : Blk W g 45 (splice cur (i * 3) (ccells [x])).toArray := by unfold Blk; rw [hW]; exact hB1
      have hg2 : w.grownBy W (some g) := ⟨q1.trans hG1.os, q2.trans hG1.tape, q3.trans hG1.output, by rw [hW]; exact hG1.size, fun k h1 h2 => by rw [hW]; exact hG1.block k h1 h2⟩
      exact hfin _ (blk_setRow hbl _) (hg2.trans (grownBy_setRow _ _ _))
    have hcn := fun (W : World) ty A c => clearN_none (P := Try.prog) W 22 ty 45 A c Try.underlying22
    have hne3 : ¬ (c = i + 1) := by omega
    have hne4 : ¬ (c = i) := by omega
    have hi1 : i + 1 ≤ q + 1 := by omega
    have hq4 : (i : Int) + 1 ≤ (q : Int) + 1 := by omega
    have hne5 : ¬ ((i : Int) + 1 = (q : Int) + 1) := by omega
    have hq7 : (i : Int) ≤ (c : Int) := by omega
    have hne6 : ¬ (i = q) := by omega
    have hne9 : ¬ (q = i) := by omega
    have htot : (i : Int) + 1 + ((q - i : Nat) : Int) = (q : Int) + 1 := by omega
    have htot2 : IntKind.i64.wrap ((q : Int) + 1) = (q : Int) + 1 := by rw [IntKind.wrap_i64]; omega
    have htot3 : (q : Int) + 1 ≤ (c : Int) := by omega
    have htot4 : ((q : Int) + 1).toNat = q + 1 := by omega
    have htot5 : (0 : Int) ≤ (q : Int) + 1 := by omega
    have htot6 : ¬ ((c : Int) < (q : Int) + 1) := by omega
    have htot7 : (i : Int) + 1 + ((q : Int) - (i : Int)) = (q : Int) + 1 := by omega
    obtain ⟨W2, hW2⟩ : ∃ W2, W2 = w.drew.setRow g (splice cur (i * 3) (ccells [x])).toArray := ⟨_, rfl⟩
    have hcpA : ∀ ty dc, (Builtin.copy_ #[22, 22] ty #[.slice (some ⟨g, i * 3, none⟩) (q + 1 - i) dc, .slice (some ⟨vb, 0, none⟩) 1 vc]).run Try.prog w.drew = .ok (goInt 1) W2 := fun ty dc => by rw [hW2]; exact hcp1 w.drew rfl ty dc
    have hcpB : ∀ ty dc sc, (Builtin.copy_ #[22, 22] ty #[.slice (some ⟨g, (i + 1) * 3, none⟩) (q - i) dc, .slice (some ⟨g, (i + 1) * 3, none⟩) (q - i) sc]).run Try.prog W2.drew = .ok (goInt ((q - i : Nat) : Int)) (W2.drew.setRow g (ccells (L.take i) ++ (ccells [x] ++ (ccells (L.drop (i + 1)) ++ R))).toArray) := hcp2 W2.drew (by rw [hW2, hW1]; rfl)
    have HG := Lib.hid (HF.out W2.drew (by rw [hW2, hW1]; rfl) (by rw [hW2, hW1]; rfl) (by rw [hW2, hW1]; rfl) (by rw [hW2, hW1]; rfl))
    clear hcp1 hcp2 HF hW2
    generalize L.take i ++ [x] ++ L.drop (i + 1) = N at *
    clear ho hB hB1 hG1 hW1 hsp hcur hX hY hD hR hcl hl1 hfin hV hvb hVl
    rcases Nat.eq_or_lt_of_le hnc with e2 | e2
    · subst e2
      go_enter Try.func63, Try.ntmps63
      go_wp2
      go_region
      go_wp2
      go_region_law_o (refine step_copy_run' rfl _ _ 22 22 rfl _ _ (by simp [Act.eval, Act.put]) (by simp [Act.eval, Act.put]) (hcpB _ _ _) ?_)
      go_wp2
      go_ret
      exact ⟨_, rfl, HG.out⟩
    · have hne8 : ¬ (c = q + 1) := by omega
      go_enter Try.func63, Try.ntmps63
      go_wp2
      go_region
      go_wp2
      go_region_law_o (refine step_copy_run' rfl _ _ 22 22 rfl _ _ (by simp [Act.eval, Act.put]) (by simp [Act.eval, Act.put]) (hcpB _ _ _) ?_)
      go_wp2
      go_ret
      exact ⟨_, rfl, HG.out⟩
/-- Insert of one, whatever the place and the room. -/
theorem nins_one (A : Option Addr) (n c i vb vc base : Nat) (L : List CL) (x : CL) (w : World) (ho : NO w base (.slice A n c) n L) (hV : Blk w vb 45 (ccells [x]).toArray) (hvb : (Value.slice A n c).ownBlock ≠ some vb) (hi : i ≤ n) (hn : n ≤ 4000) (hb : base ≤ w.heap.size) :
    Calls Try.prog 76 #[.slice A n c, .int .i64 (i : Int), .slice (some ⟨vb, 0, none⟩) 1 vc] w fun e w' => ∃ v', e = .returned v' ∧ NStep w w' base (.slice A n c) v' (L.take i ++ [x] ++ L.drop i) := by
  have hl := no_len ho
  rcases Nat.eq_or_lt_of_le hi with e | hlt
  · subst e
    have := nins_end A i c vb 1 vc base L [x] w ho hV rfl (by omega) (by omega) hb
    rw [List.take_of_length_le (by omega), List.drop_of_length_le (by omega), List.append_nil]
    exact this
  · rcases Nat.lt_or_ge c (n + 1) with h | h
    · exact nins_grow A n c i vb 1 vc base L [x] w ho hV rfl (by omega) (by omega) hlt h hb
    · exact nins_room A n c i vb 1 vc base L [x] w ho hV hvb rfl (by omega) (by omega) hlt h
set_option maxHeartbeats 2000000 in
set_option maxRecDepth 100000 in
/-- Replace of none by one. -/
theorem nrep_ins (A : Option Addr) (n c i vb vc base : Nat) (L : List CL) (x : CL) (w : World) (ho : NO w base (.slice A n c) n L) (hV : Blk w vb 45 (ccells [x]).toArray) (hvb : (Value.slice A n c).ownBlock ≠ some vb) (hi : i ≤ n) (hc : n ≤ c) (hn : n ≤ 4000) (hb : base ≤ w.heap.size) :
    Calls Try.prog 63 #[.slice A n c, .int .i64 (i : Int), .int .i64 (i : Int), .slice (some ⟨vb, 0, none⟩) 1 vc] w fun e w' => ∃ v', e = .returned v' ∧ NStep w w' base (.slice A n c) v' (L.take i ++ [x] ++ L.drop i) := by
  have HI := Lib.hid (nins_one A n c i vb vc base L x w ho hV hvb hi hn hb)
  have hsl : ∀ W : World, ∃ A' n' c', (Instr.slice 22 (.slice A n c) (some (.int .i64 (i : Int))) (some (.int .i64 (i : Int))) none).run Try.prog W = .ok (.slice A' n' c') W := fun W => by
    obtain ⟨j, hj⟩ : ∃ j, Try.prog.info? 45 = some j := Option.isSome_iff_exists.1 (by kernel_rfl)
    have hb : (Instr.sliceBounds true n c (some (.int .i64 (i : Int))) (some (.int .i64 (i : Int))) none).run Try.prog W = .ok (i, i, c) W := by
      have h1 : (i : Int) ≤ (c : Int) := by omega
      simp [Instr.sliceBounds, Instr.sliceBound, asIntOf]
      omega
    simp [Instr.slice, run_underlying (P := Try.prog) (w := W) Try.underlying22, hb, sizeOf, typeInfo, hj]
  clear ho hV hvb hb
  generalize L.take i ++ [x] ++ L.drop i = N at *
  go_enter Try.func63, Try.ntmps63
  obtain ⟨A', n', c', hs⟩ := hsl w
  clear hsl
  go_wp2_with fail
  refine HI.out.mono ?_
  rintro e w1 ⟨v', rfl, hst⟩
  have HST := Lib.hid hst
  clear hst
  go_wp2
  go_ret
  exact ⟨v', rfl, HST.out⟩
end Go.Proofs.Ytbecambkjmheiaa
/- The contracts of cmp.Compare, slices.BinarySearchFunc and find. -/
namespace Go.Proofs.Ytbecambkjmheiaa
open Go.RowKit

set_option maxRecDepth 100000 in
set_option maxHeartbeats 1000000 in
theorem nnan_any (x : Nat) (w : World) :
    Calls Try.prog 81 #[vu x] w fun e w' => e = .returned (.bool false) ∧ w = w' := by
  go_enter Try.func81, Try.ntmps81
  go_wp2
  go_ret
  exact ⟨by simp, rfl⟩
/-- What cmp.Compare tells. -/
def ncmp (a b : Nat) : Int := if a < b then -1 else if b < a then 1 else 0
set_option maxRecDepth 100000 in
set_option maxHeartbeats 1000000 in
theorem ncmp_any (a b : Nat) (w : World) :
    Calls Try.prog 72 #[vu a, vu b] w fun e w' => e = .returned (.int .i64 (ncmp a b)) ∧ w = w' := by
  have HN := Lib.hid (fun x W => nnan_any x W)
  have hd1 : (a < b ∧ ncmp a b = -1) ∨ (¬ a < b ∧ b < a ∧ ncmp a b = 1) ∨ (¬ a < b ∧ ¬ b < a ∧ ncmp a b = 0) := by
    unfold ncmp
    by_cases h1 : a < b
    · exact .inl ⟨h1, by rw [if_pos h1]⟩
    · by_cases h2 : b < a
      · exact .inr (.inl ⟨h1, h2, by rw [if_neg h1, if_pos h2]⟩)
      · exact .inr (.inr ⟨h1, h2, by rw [if_neg h1, if_neg h2]⟩)
  rcases hd1 with ⟨h1, e⟩ | ⟨h1, h2, e⟩ | ⟨h1, h2, e⟩
  all_goals
    rw [e]
    clear e
    go_enter Try.func72, Try.ntmps72
    go_wp2_with fail
    refine (HN.out _ _).mono ?_
    rintro e w1 ⟨rfl, rfl⟩
    go_wp2_with fail
    refine (HN.out _ _).mono ?_
    rintro e w1 ⟨rfl, rfl⟩
    go_wp2
    go_ret
    exact ⟨rfl, rfl⟩
set_option maxRecDepth 100000 in
set_option maxHeartbeats 1000000 in
theorem nclo_any (x : CL) (k : Nat) (w : World) :
    Calls Try.prog 71 #[cv x, vu k] w fun e w' => e = .returned (.int .i64 (ncmp x.n k)) ∧ Below w.heap.size w w' := by
  have HC := Lib.hid (fun W => ncmp_any x.n k W)
  go_enter Try.func71, Try.ntmps71
  go_wp2_with fail
  refine (HC.out _).mono ?_
  rintro e w1 ⟨rfl, rfl⟩
  go_wp2
  go_ret
  exact ⟨rfl, ba (Below.refl _ _) _⟩
/-- A place's number. -/
abbrev nk (L : List CL) (j : Nat) : Nat := (L.getD j default).n
theorem ncmp_lt {a b : Nat} : ncmp a b < 0 ↔ a < b := by unfold ncmp; split <;> (try split) <;> omega
theorem ncmp_eq {a b : Nat} : ncmp a b = 0 ↔ a = b := by unfold ncmp; split <;> (try split) <;> omega

set_option maxRecDepth 100000 in
set_option maxHeartbeats 4000000 in
theorem nbin_any (A : Option Addr) (n c k : Nat) (L : List CL) (w : World) (hA : CR w A L) (hl : L.length = n) (hu : CUp L) (hn : n ≤ 65536) :
    Calls Try.prog 70 #[.slice A n c, vu k, .func (.func 71) #[] #[]] w fun e w' => ∃ p b, CPos L k p ∧ (b = true ↔ p < n ∧ nk L p = k) ∧ e = .returned (.tuple #[.int .i64 (p : Int), .bool b]) ∧ Below w.heap.size w w' := by
  have HA := Lib.hid hA
  have HC := Lib.hid (fun x W => nclo_any x k W)
  have HU := Lib.hid hu
  have HL := Lib.hid hl
  have HR : Hid (∀ lo, lo ≤ n → (∀ t, t < lo → nk L t < k) → (∀ t, lo ≤ t → t < n → k ≤ nk L t) → CPos L k lo) := Lib.hid fun lo h0 h1 h2 => ⟨by omega, h1, fun t a b => h2 t a (by omega)⟩
  clear hA hu hl
  go_enter Try.func70, Try.ntmps70
  go_wp2_with fail
  go_loopw [9, 10] (fun iv hv wr => ∃ lo hi : Nat, iv = .int .i64 (lo : Int) ∧ hv = .int .i64 (hi : Int) ∧ lo ≤ hi ∧ hi ≤ n ∧ Hid (∀ t, t < lo → nk L t < k) ∧ Hid (∀ t, hi ≤ t → t < n → k ≤ nk L t) ∧ Below w.heap.size w wr) (fun i h _ => (intOf h).toNat - (intOf i).toNat)
  case atStart => exact ⟨0, n, rfl, rfl, Nat.zero_le _, Nat.le_refl _, Lib.hid (fun t h => by omega), Lib.hid (fun t a b => by omega), Below.refl _ _⟩
  case round =>
    obtain ⟨lo, hi, rfl, rfl, hlh, hin, HLo, HHi, hb⟩ := hrel
    by_cases hlt : lo < hi
    · obtain ⟨m, hm⟩ : ∃ m, (lo + hi) / 2 = m := ⟨_, rfl⟩
      have em : ((lo : Int) + (hi : Int)) / 2 = (m : Int) := by omega
      have m0 : lo ≤ m := by omega
      have m1 : m < hi := by omega
      have m2 : (0 : Int) ≤ (m : Int) := by omega
      have m3 : (m : Int) < (n : Int) := by omega
      obtain ⟨g, off, rfl, c0, c1, c2⟩ := (HA.out.later hb) m (by rw [HL.out]; omega)
      have HI1 : Hid ((L.getD m default).n < k → ∀ t, t < m + 1 → nk L t < k) := Lib.hid fun h t ht => by
        rcases Nat.lt_or_ge t m with h1 | h1
        · have := cup_lt HU.out m t h1 (by rw [HL.out]; omega); unfold nk; omega
        · obtain rfl : t = m := by omega
          exact h
      have HI2 : Hid (¬ (L.getD m default).n < k → ∀ t, m ≤ t → t < n → k ≤ nk L t) := Lib.hid fun h t ht h2 => by
        rcases Nat.lt_or_ge m t with h1 | h1
        · have := cup_lt HU.out t m h1 (by rw [HL.out]; omega); unfold nk; omega
        · obtain rfl : t = m := by omega
          unfold nk; omega
      generalize L.getD m default = x at *
      have HCx := Lib.hid (fun W => HC.out x W)
      have HX := Lib.hid (ncmp_lt (a := x.n) (b := k))
      generalize ncmp x.n k = cx at HCx HX
      by_cases hc : cx < 0
      · have HI3 := Lib.hid (HI1.out (HX.out.1 hc))
        go_wp2_with fail
        refine (HCx.out _).mono ?_
        rintro e w1 ⟨rfl, hb1⟩
        go_wp2
        exact ⟨⟨m + 1, hi, by go_num, rfl, by omega, hin, HI3, HHi, bt hb hb1⟩, by simp [intOf]; omega⟩
      · have HI3 := Lib.hid (HI2.out (fun h => hc (HX.out.2 h)))
        go_wp2_with fail
        refine (HCx.out _).mono ?_
        rintro e w1 ⟨rfl, hb1⟩
        go_wp2
        exact ⟨⟨lo, m, rfl, rfl, m0, by omega, HLo, HI3, bt hb hb1⟩, by simp [intOf]; omega⟩
    · obtain rfl : lo = hi := by omega
      have HP := Lib.hid (HR.out lo hin HLo.out HHi.out)
      rcases Nat.lt_or_ge lo n with h1 | h1
      · obtain ⟨g, off, rfl, c0, c1, c2⟩ := (HA.out.later hb) lo (by rw [HL.out]; omega)
        have HD : Hid ((ncmp (L.getD lo default).n k == 0) = true ↔ lo < n ∧ nk L lo = k) := Lib.hid (by
          rw [beq_iff_eq, ncmp_eq]
          exact ⟨fun e => ⟨h1, e⟩, fun h => h.2⟩)
        generalize L.getD lo default = x at *
        have HCx := Lib.hid (fun W => HC.out x W)
        generalize ncmp x.n k = cx at HCx HD
        have m2 : (0 : Int) ≤ (lo : Int) := by omega
        have m3 : (lo : Int) < (n : Int) := by omega
        go_wp2_with fail
        refine (HCx.out _).mono ?_
        rintro e w1 ⟨rfl, hb1⟩
        go_wp2
        go_ret2
        exact ⟨lo, _, HP.out, HD.out, rfl, bt hb hb1⟩
      · obtain rfl : lo = n := by omega
        go_wp2
        go_ret2
        exact ⟨lo, _, HP.out, by simp, rfl, hb⟩

set_option maxRecDepth 100000 in
set_option maxHeartbeats 1000000 in
theorem nfind_any (A : Option Addr) (n c k : Nat) (L : List CL) (w : World) (hA : CR w A L) (hl : L.length = n) (hu : CUp L) (hn : n ≤ 65536) :
    Calls Try.prog 54 #[.slice A n c, vu k] w fun e w' => ∃ p b, CPos L k p ∧ (b = true ↔ p < n ∧ nk L p = k) ∧ e = .returned (.tuple #[.int .i64 (p : Int), .bool b]) ∧ Below w.heap.size w w' := by
  have HB := Lib.hid (nbin_any A n c k L w hA hl hu hn)
  clear hA hl hu
  go_enter Try.func54, Try.ntmps54
  go_wp2_with fail
  refine HB.out.mono ?_
  rintro e w1 ⟨p, b, hp, hq, rfl, hb⟩
  go_wp2
  go_ret2
  exact ⟨p, b, hp, hq, rfl, hb⟩
end Go.Proofs.Ytbecambkjmheiaa
/- The contract of put: one cell put in its place, in a row that the call owns. -/
namespace Go.Proofs.Ytbecambkjmheiaa
open Go.RowKit Go.Lib

theorem no_read {w : World} {base n c : Nat} {A : Option Addr} {L : List CL} (h : NO w base (.slice A n c) n L) : CR w A L := own_CR h (no_len h)
theorem no_le {w : World} {base n c : Nat} {A : Option Addr} {L : List CL} (h : NO w base (.slice A n c) n L) : n ≤ c := by
  rcases no_cur h with ⟨_, h1, h2, _⟩ | ⟨_, _, _, _, _, h1, _⟩ <;> omega
theorem no_later {w w' : World} {base n : Nat} {v : Value} {L : List CL} (h : NO w base v n L) (hb : Below w.heap.size w w') : NO w' base v n L :=
  vown_kept h fun k hk => by
    obtain ⟨_, cs, hB⟩ := vown_blk h k hk
    exact hb.block k hB.lt
theorem no_lt {w : World} {base n k : Nat} {v : Value} {L : List CL} (h : NO w base v n L) (hk : v.ownBlock = some k) : base ≤ k ∧ k < w.heap.size := by
  obtain ⟨h1, cs, hB⟩ := vown_blk h k hk
  exact ⟨h1, hB.lt⟩
/-- What a change leaves, seen from ahead of what the call made beside. -/
theorem NStep.back {w w1 w' : World} {base : Nat} {v v' : Value} {L' : List CL} (h : NStep w1 w' base v v' L') (hb : Below w.heap.size w w1) :
    NO w' base v' L'.length L' ∧ w.grownBy w' v.ownBlock ∧ (v'.ownBlock = v.ownBlock ∨ ∃ k, v'.ownBlock = some k ∧ w.heap.size ≤ k) := by
  refine ⟨h.1, ⟨h.2.1.os.trans hb.os, h.2.1.tape.trans hb.tape, h.2.1.output.trans hb.output, Nat.le_trans hb.size h.2.1.size, fun k h1 h2 => ?_⟩, ?_⟩
  · rw [h.2.1.block k (Nat.lt_of_lt_of_le h1 hb.size) h2, hb.block k h1]
  · rcases h.2.2 with h2 | h2
    · exact .inl h2
    · exact .inr ⟨_, h2, hb.size⟩

set_option maxRecDepth 100000 in
set_option maxHeartbeats 4000000 in
theorem nput_any (A : Option Addr) (n c base : Nat) (L : List CL) (x : CL) (w : World) (ho : NO w base (.slice A n c) n L) (hu : CUp L) (hn : n ≤ 4000) (hb : base ≤ w.heap.size) :
    Calls Try.prog 47 #[.slice A n c, cv x] w fun e w' => ∃ v', e = .returned v' ∧ NO w' base v' (cput L x).length (cput L x) ∧ w.grownBy w' (Value.slice A n c).ownBlock ∧ (v'.ownBlock = (Value.slice A n c).ownBlock ∨ ∃ k, v'.ownBlock = some k ∧ w.heap.size ≤ k) := by
  have hl := no_len ho
  have hc := no_le ho
  have HF := Lib.hid (fun W (hb : Below w.heap.size w W) => nfind_any A n c x.n L W ((no_read ho).later hb) hl hu (by omega))
  have HO := Lib.hid (fun W (hb : Below w.heap.size w W) => no_later ho hb)
  have HK : Hid (∀ k, (Value.slice A n c).ownBlock = some k → base ≤ k ∧ k < w.heap.size) := Lib.hid fun k hk => no_lt ho hk
  have HI : Hid (∀ p, CPos L x.n p → p < n ∧ nk L p = x.n → cput L x = L.take p ++ (if x.s = 0 then [] else [x]) ++ L.drop (p + 1)) := Lib.hid fun p h1 h2 => h1.put_in hu (by omega) h2.2
  have HX : Hid (∀ p, CPos L x.n p → ¬ (p < n ∧ nk L p = x.n) → cput L x = L.take p ++ (if x.s = 0 then [] else [x]) ++ L.drop p) := Lib.hid fun p h1 h2 => h1.put_out hu (fun h => h2 ⟨by omega, h.2⟩)
  have HE : Hid (∀ W : World, Below w.heap.size w W → base ≤ W.heap.size) := Lib.hid fun W h => by have := h.size; omega
  have HQ : Hid (∀ p, CPos L x.n p → p ≤ n) := Lib.hid fun p h => by have := h.1; omega
  have HL := Lib.hid hl
  have HHO := Lib.hid ho
  clear ho hu hb hl
  by_cases h0 : x.s = 0
  · rw [if_pos h0] at HI HX
    have HZ := Lib.hid h0
    go_enter Try.func47, Try.ntmps47
    go_wp2_with fail
    refine (HF.out _ (ba (Below.refl _ _) _)).mono ?_
    rintro e w1 ⟨p, b, hp, hq, rfl, hb1⟩
    obtain ⟨r0, s0⟩ := At.later (v := vu x.n) (b := w.heap.size) (o := 0) ⟨by go_simp, by go_simp⟩ hb1
    obtain ⟨r1, s1⟩ := At.later (v := .int .i64 x.s) (b := w.heap.size) (o := 1) ⟨by go_simp, by go_simp⟩ hb1
    obtain ⟨r2, s2⟩ := At.later (v := sv x.d) (b := w.heap.size) (o := 2) ⟨by go_simp, by go_simp⟩ hb1
    have HB := Lib.hid (bt (ba (Below.refl w.heap.size w) _) hb1)
    have HP := Lib.hid hp
    have HPQ := Lib.hid hq
    have hpn := HQ.out p hp
    have hw1 : IntKind.i64.wrap ((p : Int) + 1) = (p : Int) + 1 := by rw [IntKind.wrap_i64]; omega
    clear hb1 hp hq
    cases b with
    | true =>
      obtain ⟨q, rfl⟩ : ∃ q, n = q + 1 := ⟨n - 1, by have := (HPQ.out.1 rfl).1; omega⟩
      have HD := Lib.hid (fun W hb2 => ndel_one A q c p base L W (no_later (HO.out w1 HB.out) hb2) (by have := (HPQ.out.1 rfl).1; omega) (by omega))
      have HR : Hid (L.take p ++ L.drop (p + 1) = cput L x) := Lib.hid (by rw [HI.out p HP.out (HPQ.out.1 rfl), List.append_nil])
      go_wp2_with fail
      refine (HD.out _ (Below.refl _ _)).mono ?_
      rintro e w2 ⟨v', rfl, hst⟩
      rw [HR.out] at hst
      have hfin := hst.back HB.out
      have HFin := Lib.hid hfin
      clear hfin hst
      go_wp2
      go_ret
      exact ⟨v', rfl, HFin.out⟩
    | false =>
      have HR : Hid (L = cput L x) := Lib.hid (by rw [HX.out p HP.out (fun h => by have := HPQ.out.2 h; cases this), List.append_nil, List.take_append_drop])
      have HD := Lib.hid (fun W => ndel_none A n c p W hpn hc)
      go_wp2_with fail
      refine (HD.out _).mono ?_
      rintro e w2 ⟨rfl, rfl⟩
      go_wp2
      go_ret
      refine ⟨_, rfl, ?_, ⟨HB.out.os, HB.out.tape, HB.out.output, HB.out.size, fun k h1 _ => HB.out.block k h1⟩, .inl rfl⟩
      rw [← HR.out, HL.out]
      exact HO.out _ HB.out
  · rw [if_neg h0] at HI HX
    have h0' : (x.s == 0) = false := by simpa using h0
    go_enter Try.func47, Try.ntmps47
    go_wp2_with fail
    refine (HF.out _ (ba (Below.refl _ _) _)).mono ?_
    rintro e w1 ⟨p, b, hp, hq, rfl, hb1⟩
    obtain ⟨r0, s0⟩ := At.later (v := vu x.n) (b := w.heap.size) (o := 0) ⟨by go_simp, by go_simp⟩ hb1
    obtain ⟨r1, s1⟩ := At.later (v := .int .i64 x.s) (b := w.heap.size) (o := 1) ⟨by go_simp, by go_simp⟩ hb1
    obtain ⟨r2, s2⟩ := At.later (v := sv x.d) (b := w.heap.size) (o := 2) ⟨by go_simp, by go_simp⟩ hb1
    have HB := Lib.hid (bt (ba (Below.refl w.heap.size w) _) hb1)
    have HP := Lib.hid hp
    have HPQ := Lib.hid hq
    have hpn := HQ.out p hp
    have hw1 : IntKind.i64.wrap ((p : Int) + 1) = (p : Int) + 1 := by rw [IntKind.wrap_i64]; omega
    clear hb1 hp hq
    have HB2 := Lib.hid (ba HB.out (.cells (ccells [x]).toArray 45))
    have HV : Hid (Blk (w1.alloc (.cells (ccells [x]).toArray 45)) w1.heap.size 45 (ccells [x]).toArray) := Lib.hid (Blk.new _ _ _)
    have HNE : Hid ((Value.slice A n c).ownBlock ≠ some w1.heap.size) := Lib.hid fun h => by
      have h2 := (HK.out _ h).2
      have h3 := HB.out.size
      omega
    cases b with
    | true =>
      obtain ⟨q, rfl⟩ : ∃ q, n = q + 1 := ⟨n - 1, by have := (HPQ.out.1 rfl).1; omega⟩
      have HD := Lib.hid (fun vc => nrep_one A q c p w1.heap.size vc base L x _ (HO.out _ HB2.out) HV.out HNE.out (by have := (HPQ.out.1 rfl).1; omega) (by omega))
      have HR : Hid (L.take p ++ [x] ++ L.drop (p + 1) = cput L x) := Lib.hid (HI.out p HP.out (HPQ.out.1 rfl)).symm
      go_wp2_with fail
      refine (HD.out _).mono ?_
      rintro e w2 ⟨v', rfl, hst⟩
      rw [HR.out] at hst
      have hfin := hst.back HB2.out
      have HFin := Lib.hid hfin
      clear hfin hst
      go_wp2
      go_ret
      exact ⟨v', rfl, HFin.out⟩
    | false =>
      have HD := Lib.hid (fun vc => nrep_ins A n c p w1.heap.size vc base L x _ (HO.out _ HB2.out) HV.out HNE.out hpn hc hn (HE.out _ HB2.out))
      have HR : Hid (L.take p ++ [x] ++ L.drop p = cput L x) := Lib.hid (HX.out p HP.out (fun h => by have := HPQ.out.2 h; cases this)).symm
      go_wp2_with fail
      refine (HD.out _).mono ?_
      rintro e w2 ⟨v', rfl, hst⟩
      rw [HR.out] at hst
      have hfin := hst.back HB2.out
      have HFin := Lib.hid hfin
      clear hfin hst
      go_wp2
      go_ret
      exact ⟨v', rfl, HFin.out⟩
end Go.Proofs.Ytbecambkjmheiaa
/- The contracts of mayBe, zeros, bytesOf, placeOf, isWhole and cellAt. -/
namespace Go.Proofs.Ytbecambkjmheiaa
open Go.RowKit

set_option maxRecDepth 100000 in
set_option maxHeartbeats 1000000 in
theorem nmay_any (c : CL) (w : World) : Calls Try.prog 37 #[cv c] w fun e w' => e = .returned (.bool (decide (COk c))) ∧ Below w.heap.size w w' := by
  obtain ⟨n, s, d⟩ := c
  have hd := size_mk d
  by_cases h1 : n < 576460752303423488
  · by_cases h2 : s = 1
    · subst h2
      have e : decide (COk ⟨n, 1, d⟩) = decide ((d.length : Int) = 32) := by
        simp only [COk, decide_eq_decide]; simp [h1]; omega
      rw [e]
      have h1' : ¬ (576460752303423488 : Int) ≤ (n : Int) := by omega
      clear h1 e
      show Calls Try.prog 37 #[.agg #[.int .u64 (n : Int), .int .i64 1, .string ⟨d.toArray⟩]] w _
      generalize (n : Int) = x at *
      go_enter Try.func37, Try.ntmps37
      go_wp2
      go_ret
      exact ⟨rfl, ba (Below.refl _ _) _⟩
    · by_cases h3 : s = 2
      · subst h3
        have e : decide (COk ⟨n, 2, d⟩) = d.isEmpty := by
          cases d <;> simp [COk, h1]
        rw [e]
        have h1' : ¬ (576460752303423488 : Int) ≤ (n : Int) := by omega
        clear h1 e
        show Calls Try.prog 37 #[.agg #[.int .u64 (n : Int), .int .i64 2, .string ⟨d.toArray⟩]] w _
        generalize (n : Int) = x at *
        go_enter Try.func37, Try.ntmps37
        go_wp2
        go_ret
        exact ⟨rfl, ba (Below.refl _ _) _⟩
      · have e : decide (COk ⟨n, s, d⟩) = false := by
          simp only [COk]; simp [h2, h3]
        rw [e]
        have h1' : ¬ (576460752303423488 : Int) ≤ (n : Int) := by omega
        clear h1 e
        show Calls Try.prog 37 #[.agg #[.int .u64 (n : Int), .int .i64 s, .string ⟨d.toArray⟩]] w _
        generalize (n : Int) = x at *
        go_enter Try.func37, Try.ntmps37
        go_wp2
        go_ret
        exact ⟨rfl, ba (Below.refl _ _) _⟩
  · have e : decide (COk ⟨n, s, d⟩) = false := by
      simp only [COk]; simp [h1]
    rw [e]
    have h1' : (576460752303423488 : Int) ≤ (n : Int) := by omega
    clear h1 e
    show Calls Try.prog 37 #[.agg #[.int .u64 (n : Int), .int .i64 s, .string ⟨d.toArray⟩]] w _
    generalize (n : Int) = x at *
    go_enter Try.func37, Try.ntmps37
    go_wp2
    go_ret
    exact ⟨rfl, ba (Below.refl _ _) _⟩

set_option maxRecDepth 100000 in
set_option maxHeartbeats 1000000 in
theorem nzeros_any (n : Nat) (w : World) (h : n ≤ 5000) : Calls Try.prog 48 #[.int .i64 (n : Int)] w fun e w' => e = .returned (sv (List.replicate n 0)) ∧ Below w.heap.size w w' := by
  have HR := Lib.hid (fun W => rep_any n W h)
  go_enter Try.func48, Try.ntmps48
  go_wp2_with fail
  refine (HR.out _).mono ?_
  rintro e w1 ⟨rfl, hb⟩
  go_wp2
  go_ret
  exact ⟨rfl, hb⟩

set_option maxRecDepth 100000 in
set_option maxHeartbeats 1000000 in
theorem nbytes_any (c : CL) (w : World) : Calls Try.prog 33 #[cv c] w fun e w' => e = .returned (sv (cbytes c)) ∧ Below w.heap.size w w' := by
  obtain ⟨n, s, d⟩ := c
  by_cases h : s = 1
  · subst h
    have e : cbytes ⟨n, 1, d⟩ = d := by simp [cbytes]
    rw [e]
    go_enter Try.func33, Try.ntmps33
    go_wp2
    go_ret
    exact ⟨rfl, ba (Below.refl _ _) _⟩
  · have HZ := Lib.hid (fun W => nzeros_any 32 W (by omega))
    have e : cbytes ⟨n, s, d⟩ = List.replicate 32 0 := by simp [cbytes, h]
    rw [e]
    generalize List.replicate 32 (0 : UInt8) = Z at *
    go_enter Try.func33, Try.ntmps33
    go_wp2_with fail
    refine (HZ.out _).mono ?_
    rintro e w1 ⟨rfl, hb⟩
    go_wp2
    go_ret
    exact ⟨rfl, bt (ba (Below.refl _ _) _) hb⟩

set_option maxRecDepth 100000 in
set_option maxHeartbeats 1000000 in
theorem nplace_any (f l : Nat) (w : World) (h : f < 18446744073709551616) : Calls Try.prog 35 #[.agg #[vu f, vu l]] w fun e w' => e = .returned (vu (f % 32)) ∧ Below w.heap.size w w' := by
  have hm : IntKind.u64.wrap ((f : Int).tmod 32) = ((f % 32 : Nat) : Int) := by
    rw [Int.tmod_eq_emod_of_nonneg (by omega)]
    rw [IntWalk.u64_in _ ⟨by omega, by omega⟩]
    omega
  have hm2 : vu (f % 32) = .int .u64 ((f : Int) % 32) := by simp
  rw [hm2]
  clear hm hm2
  have h2 : (f : Int) < 18446744073709551616 := by omega
  have h3 : (0 : Int) ≤ (f : Int) := by omega
  clear h
  show Calls Try.prog 35 #[.agg #[.int .u64 (f : Int), vu l]] w _
  generalize (f : Int) = x at *
  go_enter Try.func35, Try.ntmps35
  go_wp2
  go_ret
  exact ⟨rfl, ba (Below.refl _ _) _⟩

set_option maxRecDepth 100000 in
set_option maxHeartbeats 1000000 in
theorem nwhole_any (f l : Nat) (w : World) : Calls Try.prog 27 #[.agg #[vu f, vu l]] w fun e w' => e = .returned (.bool (decide (l = 32))) ∧ Below w.heap.size w w' := by
  have hm : decide ((l : Int) = 32) = decide (l = 32) := by simp only [decide_eq_decide]; omega
  rw [← hm]
  go_enter Try.func27, Try.ntmps27
  go_wp2
  go_ret
  exact ⟨rfl, ba (Below.refl _ _) _⟩

set_option maxRecDepth 100000 in
set_option maxHeartbeats 2000000 in
theorem ncellAt_any (A : Option Addr) (n c k : Nat) (L : List CL) (w : World) (hA : CR w A L) (hl : L.length = n) (hu : CUp L) (hn : n ≤ 65536) :
    Calls Try.prog 34 #[.slice A n c, vu k] w fun e w' => e = .returned (cv (cAt L k)) ∧ Below w.heap.size w w' := by
  have HF := Lib.hid (fun W (hb : Below w.heap.size w W) => nfind_any A n c k L W (hA.later hb) hl hu hn)
  have HY : Hid (∀ p b, CPos L k p → (b = true ↔ p < n ∧ nk L p = k) → b = true → p < n ∧ cAt L k = L.getD p default) := Lib.hid fun p b h1 h2 h3 => by
    have h4 := h2.1 h3
    exact ⟨h4.1, h1.at_in hu (by omega) h4.2⟩
  have HN : Hid (∀ p b, CPos L k p → (b = true ↔ p < n ∧ nk L p = k) → b = false → cAt L k = cHole k) := Lib.hid fun p b h1 h2 h3 =>
    h1.at_out hu (fun h => by rw [h2.2 ⟨by omega, h.2⟩] at h3; cases h3)
  have HA := Lib.hid hA
  have HL := Lib.hid hl
  clear hA hl hu
  generalize hC : cAt L k = C
  have HC := Lib.hid hC
  clear hC
  go_enter Try.func34, Try.ntmps34
  go_wp2_with fail
  refine (HF.out _ (ba (Below.refl _ _) _)).mono ?_
  rintro e w1 ⟨p, b, hp, hq, rfl, hb⟩
  have R0 := At.later (v := .int .u64 0) (b := w.heap.size) (o := 0) ⟨by go_simp, by go_simp⟩ hb
  have R1 := At.later (v := .int .i64 0) (b := w.heap.size) (o := 1) ⟨by go_simp, by go_simp⟩ hb
  have R2 := At.later (v := .string ⟨#[]⟩) (b := w.heap.size) (o := 2) ⟨by go_simp, by go_simp⟩ hb
  have z1 : w.heap.size < w1.heap.size := by have := hb.size; simp at this; omega
  have HB := Lib.hid (bt (ba (Below.refl w.heap.size w) _) hb)
  cases b with
  | true =>
    obtain ⟨hpn, he⟩ := HY.out p true hp hq rfl
    rw [HC.out] at he
    obtain ⟨g, off, rfl, c0, c1, c2⟩ := (HA.out.later HB.out) p (by rw [HL.out]; omega)
    rw [← he] at c0 c1 c2
    have i0 : (0 : Int) ≤ (p : Int) := by omega
    have i1 : (p : Int) < (n : Int) := by omega
    obtain ⟨r0, s0⟩ := R0
    obtain ⟨r1, s1⟩ := R1
    obtain ⟨r2, s2⟩ := R2
    clear he hp hq hb
    go_wp2
    refine bodyPost_ret (v := cv C) (by simp [results, Try.results34, go_sem, r0, r1, r2]) rfl ⟨rfl, ?_⟩
    exact bs (bs (bs HB.out (by omega) _) (by omega) _) (by omega) _
  | false =>
    have he := HN.out p false hp hq rfl
    rw [HC.out] at he
    subst he
    obtain ⟨r0, s0⟩ := R0
    obtain ⟨r1, s1⟩ := R1
    obtain ⟨r2, s2⟩ := R2
    clear hp hq hb
    go_wp2
    refine bodyPost_ret (v := cv (cHole k)) (by simp [results, Try.results34, go_sem, r0, r1, r2, cHole]) rfl ⟨rfl, ?_⟩
    exact bs (bs (bs HB.out (by omega) _) (by omega) _) (by omega) _
end Go.Proofs.Ytbecambkjmheiaa
