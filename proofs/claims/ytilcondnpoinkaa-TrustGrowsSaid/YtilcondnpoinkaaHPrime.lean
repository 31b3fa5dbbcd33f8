/- The iterator primes: the first so many primes, each with how many are less. -/
import Derived.Test.YtilcondnpoinkaaHLaw
import Derived.Test.YtilcondnpoinkaaHFac
import Derived.Laws.MakeOwn
namespace Go.Proofs.Ytilcondnpoinkaa
open Go.RowKit Go.Shelf
attribute [local go_sem] Oper.semAt_some

/-- The primes that are less than j + 2. -/
def lessAt : Nat → List Nat
  | 0 => []
  | j + 1 => if hasF (j + 2) (lessAt j) then lessAt j else lessAt j ++ [j + 2]
theorem lessAt_bd (j : Nat) : ∀ x ∈ lessAt j, 2 ≤ x ∧ x < j + 2 := by
  induction j with
  | zero => intro x hx; cases hx
  | succ j ih =>
    intro x hx
    rw [lessAt] at hx
    split at hx
    · have := ih x hx; omega
    · rcases List.mem_append.1 hx with h | h
      · have := ih x h; omega
      · rw [List.mem_singleton.1 h]; omega
theorem lessAt_pre (j d : Nat) : lessAt j <+: lessAt (j + d) := by
  induction d with
  | zero => exact List.prefix_refl _
  | succ d ih =>
    refine ih.trans ?_
    rw [← Nat.add_assoc, lessAt]
    split
    · exact List.prefix_refl _
    · exact List.prefix_append _ _
/-- What the iterator hands on. -/
def pairs (P : List Nat) (k : Nat) : List (Nat × Nat) := (List.range k).map fun i => (i, wn P i)
theorem pairs_succ (P : List Nat) (k : Nat) : pairs P (k + 1) = pairs P k ++ [(k, wn P k)] := by simp [pairs, List.range_succ]
theorem pairs_len (P : List Nat) (k : Nat) : (pairs P k).length = k := by simp [pairs]

theorem pairs_pre (P : List Nat) (k d : Nat) : pairs P k <+: pairs P (k + d) := by
  induction d with
  | zero => exact List.prefix_refl _
  | succ d ih => rw [← Nat.add_assoc, pairs_succ]; exact ih.trans (List.prefix_append _ _)

theorem info25 : (Try.prog.info? 66).map (fun i => (i.zero, i.size, i.bytes)) = some (some (.int .u32 0), 1, 4) := by kernel_rfl
theorem makeWords (m : Nat) (hm : m ≤ 64) : ∃ Z : Array Value, Z.size = m ∧ ∀ W : World, (Instr.makeSlice 63 (.int .i64 0) (.int .i64 (m : Int))).run Try.prog W = .ok (.slice (some ⟨W.heap.size, 0, none⟩) 0 m) (W.alloc (.cells Z 66)) := by
  obtain ⟨i0, hi, hz0, hz1, hz2⟩ := info_parts info25
  refine ⟨madeCells (Value.int .u32 0).cells (m * 1), by simp [madeCells, Value.cells], fun W => ?_⟩
  have h := run_makeSlice (P := Try.prog) W 63 66 i0 (.int .u32 0) Try.underlying63 hi hz0 .i64 .i64 0 m (by omega) (by omega) (by rw [hz1]; simp; omega) (by rw [hz2]; omega) (by omega)
  rw [hz1] at h
  simpa using h
theorem kp_own {n₀ : Nat} {W W' : World} {base n : Nat} {v : Value} {xs : List Value} (ho : W.ownsRow base 66 1 v n xs) (h : KpC n₀ W W') : W'.ownsRow base 66 1 v n xs := by
  obtain ⟨h1, h2⟩ := ho
  refine ⟨h1, ?_⟩
  rcases h2 with h2 | ⟨g, cap, cur, hv, hb, hh, r⟩
  · exact .inl h2
  · exact .inr ⟨g, cap, cur, hv, hb, h.2 g cur _ _ (.inl rfl) hh, r⟩
theorem own_WR {W : World} {base g c n : Nat} {L : List Nat} (h : W.ownsRow base 66 1 (.slice (some ⟨g, 0, none⟩) n c) n (L.map wv)) (hl : L.length = n) : WR W (some ⟨g, 0, none⟩) L := fun j hj => ⟨g, 0, rfl, by
  rw [Nat.zero_add, h.cellAt j (by omega), wn_get L j hj]
  simp [hj]⟩
theorem own_rowI {W : World} {base g c n : Nat} {xs : List Value} (h : W.ownsRow base 66 1 (.slice (some ⟨g, 0, none⟩) n c) n xs) (B : Nat) (hB : B ≤ base) : RowI B W (Value.slice (some ⟨g, 0, none⟩) n c).ownBlock := by
  intro r e
  cases e
  rcases h.2 with ⟨hv, _⟩ | ⟨g', cap, cur, hv, hb, hh, _⟩
  · cases hv
  · cases hv
    exact ⟨Nat.le_trans hB hb, _, _, hh⟩

set_option maxRecDepth 100000 in
set_option maxHeartbeats 4000000 in
theorem primes1_in (n : Nat) (hn : 1 ≤ n) (l Bm n₀ m je : Nat) (hm : m ≤ 64) (hje : je ≤ 400) (hend : (lessAt je).length = m) (hbef : ∀ j, j < je → (lessAt j).length < m) (J Jx : List (Nat × Nat) → World → Prop)
    (W : World) (hJ : AbC W.heap.size J)
    (hY : ∀ pre x W1, J pre W1 → (pre ++ [x]) <+: pairs (lessAt je) m → YieldAt Fence.wide (n - 1) Try.prog l #[.int .i64 (x.1 : Int), .int .u32 (x.2 : Int)] W1 fun e W' =>
      (e = .returned (.bool true) ∧ J (pre ++ [x]) W' ∧ KpC n₀ W1 W') ∨ (e = .returned (.bool false) ∧ Jx (pre ++ [x]) W'))
    (hBm : Boxed W Bm 3 (.int .i64 (m : Int))) (h0 : J [] W) :
    CallsIn Fence.wide n Try.prog 68 #[.func (.yield l) #[] #[], .pointer (some ⟨Bm, 0, none⟩)] W fun e W' => (∃ v, e = .returned v) ∧
      (J (pairs (lessAt je) m) W' ∨ (∃ pre, pre <+: pairs (lessAt je) m ∧ Jx pre W')) := by
  obtain ⟨i0, hi, hz0, hz1, hz2⟩ := info_parts info25
  obtain ⟨Z, hZ, hmk⟩ := makeWords m hm
  have HZ := Lib.hid hZ
  have HEND := Lib.hid hend
  have HBEF := Lib.hid hbef
  have c0 := hBm.cell
  have HBM := Lib.hid hBm
  clear hZ hend hbef hBm
  refine callsIn_of_wp Try.func68 rfl trivial ?_ rfl
  simp only [Try.ntmps68, List.size_toArray, List.length_cons, List.length_nil, Nat.reduceAdd, Nat.reduceSub, Array.replicate_succ, Array.replicate_zero, List.push_toArray, List.append_toArray, List.nil_append, List.cons_append]
  gi_wp2
  clear c0 hmk
  gi_loopw [3, 4] (fun sv nv wr => ∃ j q k g c : Nat, j ≤ je ∧ nv = .int .u32 (q : Int) ∧ (q : Int) ≤ 402 ∧ Hid (q = j + 2) ∧ Hid ((lessAt j).length = k) ∧ sv = .slice (some ⟨g, 0, none⟩) k c ∧ wr.ownsRow W.heap.size 66 1 (.slice (some ⟨g, 0, none⟩) k c) k ((lessAt j).map wv) ∧ Hid (Boxed wr Bm 3 (.int .i64 (m : Int))) ∧ J (pairs (lessAt je) k) wr ∧ W.heap.size ≤ wr.heap.size)
    (fun _ nv _ => 500 - (intOf nv).toNat)
  case atStart =>
    refine ⟨0, 2, 0, W.heap.size, m, Nat.zero_le _, rfl, by omega, Lib.hid rfl, Lib.hid rfl, rfl, ?_, Lib.hid (HBM.out.alloc _), ?_, by simp⟩
    · exact ⟨rfl, .inr ⟨_, m, Z, rfl, Nat.le_refl _, heap_alloc_new W _, by omega, by unfold maxLen; omega, by rw [HZ.out]; simp, by simp [lessAt]⟩⟩
    · exact hJ _ _ _ none h0 (World.grownBy_alloc _ _ none) (fun r e => by cases e)
  case round =>
    obtain ⟨j, q, k, g, c, hj, rfl, hq, HQ, HL, rfl, hown, HBX, hJs, hz⟩ := hrel
    have hcell := HBX.out.cell
    by_cases hlt : j < je
    · have hk : k < m := by have := HBEF.out j hlt; rw [HL.out] at this; exact this
      have hlb : ∀ x ∈ lessAt j, 2 ≤ x ∧ x < 1000 := fun x hx => by have := lessAt_bd j x hx; omega
      have HF := Lib.hid (hasF_any q (some ⟨g, 0, none⟩) c k (lessAt j) wr (own_WR hown HL.out) HL.out (by omega) (by omega) hlb)
      have hq2 : (q : Int) + 1 ≤ 402 := by have := HQ.out; omega
      have HO := Lib.hid hown
      have HJ := Lib.hid hJs
      clear hlb hown hJs
      by_cases hf : hasF q (lessAt j) = true
      · have HN : Hid (lessAt (j + 1) = lessAt j) := Lib.hid (by rw [lessAt, ← HQ.out, if_pos hf])
        rw [hf] at HF
        clear hf
        gi_wp2_with (refine ⟨trivial, ?_⟩; refine (callsIn_wide.2 HF.out).mono ?_; rintro e w' ⟨rfl, rfl⟩)
        exact ⟨⟨j + 1, q + 1, k, g, c, by omega, by go_num, by omega, Lib.hid (by have := HQ.out; omega), Lib.hid (by rw [HN.out]; exact HL.out), rfl, by rw [HN.out]; exact HO.out, HBX, HJ.out, hz⟩, by simp [intOf]; omega⟩
      · have hf' : hasF q (lessAt j) = false := by simpa using hf
        have hN : lessAt (j + 1) = lessAt j ++ [q] := by rw [lessAt, ← HQ.out, if_neg hf]
        have hP : wn (lessAt je) k = q := by
          obtain ⟨d, hd⟩ : ∃ d, je = j + 1 + d := ⟨je - (j + 1), by omega⟩
          obtain ⟨r, hr⟩ := lessAt_pre (j + 1) d
          rw [hd, ← hr, hN]
          have hl := HL.out
          generalize lessAt j = A at hl
          subst hl
          simp [wn, List.getD]
        have HN := Lib.hid hN
        have HP := Lib.hid hP
        have HY := Lib.hid (pairs_succ (lessAt je) k)
        have HPRE : Hid (pairs (lessAt je) k ++ [(k, q)] <+: pairs (lessAt je) m) := Lib.hid (by
          obtain ⟨d, rfl⟩ : ∃ d, m = k + 1 + d := ⟨m - (k + 1), by omega⟩
          have := pairs_pre (lessAt je) (k + 1) d
          rw [HY.out, HP.out] at this
          exact this)
        rw [hf'] at HF
        obtain ⟨fn, tmps, assign, body, hy, hR⟩ := hY (pairs (lessAt je) k) (k, q) wr HJ.out HPRE.out
        dsimp only at hy
        have HR := Lib.hid hR
        clear hf hf' hN hP hR
        gi_wp2_with (refine ⟨trivial, ?_⟩; refine (callsIn_wide.2 HF.out).mono ?_; rintro e w' ⟨rfl, rfl⟩)
        refine HR.out.mono ?_
        rintro e W3 (⟨rfl, hJ3, hk3⟩ | ⟨rfl, hJx3⟩)
        · have HO3 := Lib.hid (kp_own HO.out hk3)
          have z3 := hk3.1.size
          have hn := cell_one_new W3 (.int .u32 (q : Int)) 66
          have hz3 : W.heap.size ≤ W3.heap.size := by omega
          gi_wp2_with (gi_at_builtin; go_must (refine wpListIn_append_own _ rfl _ _ 63 rfl W.heap.size 66 i0 (.int .u32 0) 1 4 Try.underlying63 hi hz0 hz1 hz2 rfl (by decide) _ _ _ rfl (HO3.out.alloc _) ⟨W3.heap.size, 0, none⟩ 1 1 [.int .u32 (q : Int)] rfl rfl hn (by simp [Value.oneCell']) (by unfold maxLen; omega) (by omega) (by simp; omega) ?_); intro v' w4 hown' hgrow _; obtain ⟨g', cap', rfl⟩ := ownsRow_succ hown')
          have HB3 : Boxed (W3.alloc (.cells #[.int .u32 (q : Int)] 66)) Bm 3 (.int .i64 (m : Int)) := Boxed.alloc (hk3.2 Bm _ _ _ (.inr rfl) HBX.out) _
          have hJ4 : J (pairs (lessAt je) (k + 1)) w4 := by
            rw [HY.out, HP.out]
            exact hJ _ _ _ _ (hJ _ _ _ none hJ3 (World.grownBy_alloc _ _ none) (fun r e => by cases e)) hgrow (own_rowI (HO3.out.alloc _) _ (Nat.le_refl _))
          have hs4 := hgrow.size
          rw [World.size_alloc] at hs4
          refine ⟨⟨j + 1, q + 1, k + 1, g', cap', by omega, by go_num, by omega, Lib.hid (by have := HQ.out; omega), Lib.hid (by rw [HN.out, List.length_append, HL.out]; rfl), rfl, by rw [HN.out, List.map_append]; exact hown', Lib.hid (HB3.kept hgrow (HB3.not_row (by decide) (HO3.out.alloc _))), hJ4, by omega⟩, by simp [intOf]; omega⟩
        · gi_wp2
          refine bodyPost_ret (results_none rfl _ _ _) rfl ?_
          exact ⟨⟨_, rfl⟩, .inr ⟨_, HPRE.out, hJx3⟩⟩
    · have hje' : j = je := by omega
      have hkm : k = m := by rw [← HL.out, hje', HEND.out]
      have HJ := Lib.hid hJs
      have hown2 := Lib.hid hown
      clear hje' hown hJs
      subst hkm
      gi_wp2
      go_end0
      exact ⟨⟨_, rfl⟩, .inl HJ.out⟩

theorem primes_hands (n : Nat) (hn : 1 ≤ n) (Bm n₀ m je : Nat) (hm : m ≤ 64) (hje : je ≤ 400) (hend : (lessAt je).length = m) (hbef : ∀ j, j < je → (lessAt j).length < m) (w : World) (hBm : Boxed w Bm 3 (.int .i64 (m : Int))) :
    HandsC n 68 #[.pointer (some ⟨Bm, 0, none⟩)] n₀ (pairs (lessAt je) m) w := fun l J Jx W hW hJ _ hY h0 =>
  primes1_in n hn l Bm n₀ m je hm hje hend hbef J Jx W hJ hY ((hW.block Bm hBm.lt).trans hBm) h0

set_option maxHeartbeats 1000000 in
theorem primes_any (m : Nat) (w : World) :
    Calls Try.prog 57 #[.int .i64 (m : Int)] w fun e w' => e = .returned (.func (.func 68) #[] #[.pointer (some ⟨w.heap.size, 0, none⟩)]) ∧ w' = w.alloc (.cells #[.int .i64 (m : Int)] 3) := by
  go_enter Try.func57, Try.ntmps57
  go_wp2
  go_ret
  exact ⟨rfl, rfl⟩
end Go.Proofs.Ytilcondnpoinkaa
