/- Texts of this seat, one behind the other: HPrime, HMul, HRoot, HPR, HArr. -/
import Derived.Laws.MakeOwn
import Derived.Lib.Mul64
import Derived.Deep.MidRow
import Derived.Test.YtegojdblaanclaaDoorQ01
import Derived.Test.YtegojdblaanclaaDoorQ04
import Derived.Test.YtegojdblaanclaaDoorQ05
/- The iterator primes: the first so many primes, each with how many are less. -/
namespace Go.Proofs.YtegojdblaanclaaDoor
open Go.RowKit Go.Shelf
attribute [local go_sem] Oper.semAt_some

/-- The primes that are less than j + 2. -/
def lessAt : Nat → List Nat
  | 0 => []
  | j + 1 => if hasF (j + 2) (lessAt j) then lessAt j else lessAt j ++ [j + 2]
theorem lessAt_bd (j : Nat) : ∀ x ∈ lessAt j, 2 ≤ x ∧ x < j + 2 := by
  induction j with
  | zero => intro x hx; cases hx
  | succ j ih =>
    intro x hx
    rw [lessAt] at hx
    split at hx
    · have := ih x hx; omega
    · rcases List.mem_append.1 hx with h | h
      · have := ih x h; omega
      · rw [List.mem_singleton.1 h]; omega
theorem lessAt_pre (j d : Nat) : lessAt j <+: lessAt (j + d) := by
  induction d with
  | zero => exact List.prefix_refl _
  | succ d ih =>
    refine ih.trans ?_
    rw [← Nat.add_assoc, lessAt]
    split
    · exact List.prefix_refl _
    · exact List.prefix_append _ _
/-- What the iterator hands on. -/
def pairs (P : List Nat) (k : Nat) : List (Nat × Nat) := (List.range k).map fun i => (i, wn P i)
theorem pairs_succ (P : List Nat) (k : Nat) : pairs P (k + 1) = pairs P k ++ [(k, wn P k)] := by simp [pairs, List.range_succ]
theorem pairs_len (P : List Nat) (k : Nat) : (pairs P k).length = k := by simp [pairs]

theorem pairs_pre (P : List Nat) (k d : Nat) : pairs P k <+: pairs P (k + d) := by
  induction d with
  | zero => exact List.prefix_refl _
  | succ d ih => rw [← Nat.add_assoc, pairs_succ]; exact ih.trans (List.prefix_append _ _)

theorem info25 : (Tryd.prog.info? 92).map (fun i => (i.zero, i.size, i.bytes)) = some (some (.int .u32 0), 1, 4) := by kernel_rfl
theorem makeWords (m : Nat) (hm : m ≤ 64) : ∃ Z : Array Value, Z.size = m ∧ ∀ W : World, (Instr.makeSlice 89 (.int .i64 0) (.int .i64 (m : Int))).run Tryd.prog W = .ok (.slice (some ⟨W.heap.size, 0, none⟩) 0 m) (W.alloc (.cells Z 92)) := by
  obtain ⟨i0, hi, hz0, hz1, hz2⟩ := info_parts info25
  refine ⟨madeCells (Value.int .u32 0).cells (m * 1), by simp [madeCells, Value.cells], fun W => ?_⟩
  have h := run_makeSlice (P := Tryd.prog) W 89 92 i0 (.int .u32 0) Tryd.underlying89 hi hz0 .i64 .i64 0 m (by omega) (by omega) (by rw [hz1]; simp; omega) (by rw [hz2]; omega) (by omega)
  rw [hz1] at h
  simpa using h
theorem kp_own {n₀ : Nat} {W W' : World} {base n : Nat} {v : Value} {xs : List Value} (ho : W.ownsRow base 92 1 v n xs) (h : KpC n₀ W W') : W'.ownsRow base 92 1 v n xs := by
  obtain ⟨h1, h2⟩ := ho
  refine ⟨h1, ?_⟩
  rcases h2 with h2 | ⟨g, cap, cur, hv, hb, hh, r⟩
  · exact .inl h2
  · exact .inr ⟨g, cap, cur, hv, hb, h.2 g cur _ _ (.inl rfl) hh, r⟩
theorem own_WR {W : World} {base g c n : Nat} {L : List Nat} (h : W.ownsRow base 92 1 (.slice (some ⟨g, 0, none⟩) n c) n (L.map wv)) (hl : L.length = n) : WR W (some ⟨g, 0, none⟩) L := fun j hj => ⟨g, 0, rfl, by
  rw [Nat.zero_add, h.cellAt j (by omega), wn_get L j hj]
  simp [hj]⟩
theorem own_rowI {W : World} {base g c n : Nat} {xs : List Value} (h : W.ownsRow base 92 1 (.slice (some ⟨g, 0, none⟩) n c) n xs) (B : Nat) (hB : B ≤ base) : RowI B W (Value.slice (some ⟨g, 0, none⟩) n c).ownBlock := by
  intro r e
  cases e
  rcases h.2 with ⟨hv, _⟩ | ⟨g', cap, cur, hv, hb, hh, _⟩
  · cases hv
  · cases hv
    exact ⟨Nat.le_trans hB hb, _, _, hh⟩

set_option maxRecDepth 100000 in
set_option maxHeartbeats 4000000 in
theorem primes1_in (n : Nat) (hn : 1 ≤ n) (l Bm n₀ m je : Nat) (hm : m ≤ 64) (hje : je ≤ 400) (hend : (lessAt je).length = m) (hbef : ∀ j, j < je → (lessAt j).length < m) (J Jx : List (Nat × Nat) → World → Prop)
    (W : World) (hJ : AbC W.heap.size J)
    (hY : ∀ pre x W1, J pre W1 → (pre ++ [x]) <+: pairs (lessAt je) m → YieldAt Fence.wide (n - 1) Tryd.prog l #[.int .i64 (x.1 : Int), .int .u32 (x.2 : Int)] W1 fun e W' =>
      (e = .returned (.bool true) ∧ J (pre ++ [x]) W' ∧ KpC n₀ W1 W') ∨ (e = .returned (.bool false) ∧ Jx (pre ++ [x]) W'))
    (hBm : Boxed W Bm 3 (.int .i64 (m : Int))) (h0 : J [] W) :
    CallsIn Fence.wide n Tryd.prog 87 #[.func (.yield l) #[] #[], .pointer (some ⟨Bm, 0, none⟩)] W fun e W' => (∃ v, e = .returned v) ∧
      (J (pairs (lessAt je) m) W' ∨ (∃ pre, pre <+: pairs (lessAt je) m ∧ Jx pre W')) := by
  obtain ⟨i0, hi, hz0, hz1, hz2⟩ := info_parts info25
  obtain ⟨Z, hZ, hmk⟩ := makeWords m hm
  have HZ := Lib.hid hZ
  have HEND := Lib.hid hend
  have HBEF := Lib.hid hbef
  have c0 := hBm.cell
  have HBM := Lib.hid hBm
  clear hZ hend hbef hBm
  refine callsIn_of_wp Tryd.func87 rfl trivial ?_ rfl
  simp only [Tryd.ntmps87, List.size_toArray, List.length_cons, List.length_nil, Nat.reduceAdd, Nat.reduceSub, Array.replicate_succ, Array.replicate_zero, List.push_toArray, List.append_toArray, List.nil_append, List.cons_append]
  gi_wp2
  clear c0 hmk
  gi_loopw [3, 4] (fun sv nv wr => ∃ j q k g c : Nat, j ≤ je ∧ nv = .int .u32 (q : Int) ∧ (q : Int) ≤ 402 ∧ Hid (q = j + 2) ∧ Hid ((lessAt j).length = k) ∧ sv = .slice (some ⟨g, 0, none⟩) k c ∧ wr.ownsRow W.heap.size 92 1 (.slice (some ⟨g, 0, none⟩) k c) k ((lessAt j).map wv) ∧ Hid (Boxed wr Bm 3 (.int .i64 (m : Int))) ∧ J (pairs (lessAt je) k) wr ∧ W.heap.size ≤ wr.heap.size)
    (fun _ nv _ => 500 - (intOf nv).toNat)
  case atStart =>
    refine ⟨0, 2, 0, W.heap.size, m, Nat.zero_le _, rfl, by omega, Lib.hid rfl, Lib.hid rfl, rfl, ?_, Lib.hid (HBM.out.alloc _), ?_, by simp⟩
    · exact ⟨rfl, .inr ⟨_, m, Z, rfl, Nat.le_refl _, heap_alloc_new W _, by omega, by unfold maxLen; omega, by rw [HZ.out]; simp, by simp [lessAt]⟩⟩
    · exact hJ _ _ _ none h0 (World.grownBy_alloc _ _ none) (fun r e => by cases e)
  case round =>
    obtain ⟨j, q, k, g, c, hj, rfl, hq, HQ, HL, rfl, hown, HBX, hJs, hz⟩ := hrel
    have hcell := HBX.out.cell
    by_cases hlt : j < je
    · have hk : k < m := by have := HBEF.out j hlt; rw [HL.out] at this; exact this
      have hlb : ∀ x ∈ lessAt j, 2 ≤ x ∧ x < 1000 := fun x hx => by have := lessAt_bd j x hx; omega
      have HF := Lib.hid (hasF_any q (some ⟨g, 0, none⟩) c k (lessAt j) wr (own_WR hown HL.out) HL.out (by omega) (by omega) hlb)
      have hq2 : (q : Int) + 1 ≤ 402 := by have := HQ.out; omega
      have HO := Lib.hid hown
      have HJ := Lib.hid hJs
      clear hlb hown hJs
      by_cases hf : hasF q (lessAt j) = true
      · have HN : Hid (lessAt (j + 1) = lessAt j) := Lib.hid (by rw [lessAt, ← HQ.out, if_pos hf])
        rw [hf] at HF
        clear hf
        gi_wp2_with (refine ⟨trivial, ?_⟩; refine (callsIn_wide.2 HF.out).mono ?_; rintro e w' ⟨rfl, rfl⟩)
        exact ⟨⟨j + 1, q + 1, k, g, c, by omega, by go_num, by omega, Lib.hid (by have := HQ.out; omega), Lib.hid (by rw [HN.out]; exact HL.out), rfl, by rw [HN.out]; exact HO.out, HBX, HJ.out, hz⟩, by simp [intOf]; omega⟩
      · have hf' : hasF q (lessAt j) = false := by simpa using hf
        have hN : lessAt (j + 1) = lessAt j ++ [q] := by rw [lessAt, ← HQ.out, if_neg hf]
        have hP : wn (lessAt je) k = q := by
          obtain ⟨d, hd⟩ : ∃ d, je = j + 1 + d := ⟨je - (j + 1), by omega⟩
          obtain ⟨r, hr⟩ := lessAt_pre (j + 1) d
          rw [hd, ← hr, hN]
          have hl := HL.out
          generalize lessAt j = A at hl
          subst hl
          simp [wn, List.getD]
        have HN := Lib.hid hN
        have HP := Lib.hid hP
        have HY := Lib.hid (pairs_succ (lessAt je) k)
        have HPRE : Hid (pairs (lessAt je) k ++ [(k, q)] <+: pairs (lessAt je) m) := Lib.hid (by
          obtain ⟨d, rfl⟩ : ∃ d, m = k + 1 + d := ⟨m - (k + 1), by omega⟩
          have := pairs_pre (lessAt je) (k + 1) d
          rw [HY.out, HP.out] at this
          exact this)
        rw [hf'] at HF
        obtain ⟨fn, tmps, assign, body, hy, hR⟩ := hY (pairs (lessAt je) k) (k, q) wr HJ.out HPRE.out
        dsimp only at hy
        have HR := Lib.hid hR
        clear hf hf' hN hP hR
        gi_wp2_with (refine ⟨trivial, ?_⟩; refine (callsIn_wide.2 HF.out).mono ?_; rintro e w' ⟨rfl, rfl⟩)
        refine HR.out.mono ?_
        rintro e W3 (⟨rfl, hJ3, hk3⟩ | ⟨rfl, hJx3⟩)
        · have HO3 := Lib.hid (kp_own HO.out hk3)
          have z3 := hk3.1.size
          have hn := cell_one_new W3 (.int .u32 (q : Int)) 92
          have hz3 : W.heap.size ≤ W3.heap.size := by omega
          gi_wp2_with (gi_at_builtin; go_must (refine wpListIn_append_own _ rfl _ _ 89 rfl W.heap.size 92 i0 (.int .u32 0) 1 4 Tryd.underlying89 hi hz0 hz1 hz2 rfl (by decide) _ _ _ rfl (HO3.out.alloc _) ⟨W3.heap.size, 0, none⟩ 1 1 [.int .u32 (q : Int)] rfl rfl hn (by simp [Value.oneCell']) (by unfold maxLen; omega) (by omega) (by simp; omega) ?_); intro v' w4 hown' hgrow _; obtain ⟨g', cap', rfl⟩ := ownsRow_succ hown')
          have HB3 : Boxed (W3.alloc (.cells #[.int .u32 (q : Int)] 92)) Bm 3 (.int .i64 (m : Int)) := Boxed.alloc (hk3.2 Bm _ _ _ (.inr rfl) HBX.out) _
          have hJ4 : J (pairs (lessAt je) (k + 1)) w4 := by
            rw [HY.out, HP.out]
            exact hJ _ _ _ _ (hJ _ _ _ none hJ3 (World.grownBy_alloc _ _ none) (fun r e => by cases e)) hgrow (own_rowI (HO3.out.alloc _) _ (Nat.le_refl _))
          have hs4 := hgrow.size
          rw [World.size_alloc] at hs4
          refine ⟨⟨j + 1, q + 1, k + 1, g', cap', by omega, by go_num, by omega, Lib.hid (by have := HQ.out; omega), Lib.hid (by rw [HN.out, List.length_append, HL.out]; rfl), rfl, by rw [HN.out, List.map_append]; exact hown', Lib.hid (HB3.kept hgrow (HB3.not_row (by decide) (HO3.out.alloc _))), hJ4, by omega⟩, by simp [intOf]; omega⟩
        · gi_wp2
          refine bodyPost_ret (results_none rfl _ _ _) rfl ?_
          exact ⟨⟨_, rfl⟩, .inr ⟨_, HPRE.out, hJx3⟩⟩
    · have hje' : j = je := by omega
      have hkm : k = m := by rw [← HL.out, hje', HEND.out]
      have HJ := Lib.hid hJs
      have hown2 := Lib.hid hown
      clear hje' hown hJs
      subst hkm
      gi_wp2
      go_end0
      exact ⟨⟨_, rfl⟩, .inl HJ.out⟩

theorem primes_hands (n : Nat) (hn : 1 ≤ n) (Bm n₀ m je : Nat) (hm : m ≤ 64) (hje : je ≤ 400) (hend : (lessAt je).length = m) (hbef : ∀ j, j < je → (lessAt j).length < m) (w : World) (hBm : Boxed w Bm 3 (.int .i64 (m : Int))) :
    HandsC n 87 #[.pointer (some ⟨Bm, 0, none⟩)] n₀ (pairs (lessAt je) m) w := fun l J Jx W hW hJ _ hY h0 =>
  primes1_in n hn l Bm n₀ m je hm hje hend hbef J Jx W hJ hY ((hW.block Bm hBm.lt).trans hBm) h0

set_option maxHeartbeats 1000000 in
theorem primes_any (m : Nat) (w : World) :
    Calls Tryd.prog 76 #[.int .i64 (m : Int)] w fun e w' => e = .returned (.func (.func 87) #[] #[.pointer (some ⟨w.heap.size, 0, none⟩)]) ∧ w' = w.alloc (.cells #[.int .i64 (m : Int)] 3) := by
  go_enter Tryd.func76, Tryd.ntmps76
  go_wp2
  go_ret
  exact ⟨rfl, rfl⟩
end Go.Proofs.YtegojdblaanclaaDoor
/- The contracts of math/bits.Mul64, and of the two tests whether a number is less than a root times 2^32. -/
namespace Go.Proofs.YtegojdblaanclaaDoor
open Go.RowKit

theorem maskN (a : Nat) (ha : a < 18446744073709551616) : bits .and .u64 (a : Int) 4294967295 = ((a % 4294967296 : Nat) : Int) := by
  have h := bits_and_u64_nat a 4294967295 ha (by omega)
  rw [show a &&& 4294967295 = a % 4294967296 from Nat.and_two_pow_sub_one_eq_mod a 32] at h
  exact h
theorem divN (a : Nat) : (a : Int) / 4294967296 = ((a / 4294967296 : Nat) : Int) := by omega
theorem wrapN (a : Nat) (ha : a < 18446744073709551616) : IntKind.u64.wrap (a : Int) = (a : Int) := by rw [IntKind.wrap_u64]; omega
theorem wrapM (a : Nat) : IntKind.u64.wrap (a : Int) = ((a % 18446744073709551616 : Nat) : Int) := by rw [IntKind.wrap_u64]; omega

set_option maxRecDepth 100000 in
set_option maxHeartbeats 1000000 in
theorem hmul_any (x y : Nat) (hx : x < 18446744073709551616) (hy : y < 18446744073709551616) (w : World) :
    Calls Tryd.prog 91 #[.int .u64 (x : Int), .int .u64 (y : Int)] w fun e w' => e = .returned (.tuple #[.int .u64 ((x * y / 18446744073709551616 : Nat) : Int), .int .u64 ((x * y % 18446744073709551616 : Nat) : Int)]) ∧ w = w' := by
  obtain ⟨bd, bt, bw, hhi⟩ := Lib.mul64_hi x y hx hy
  have ba := Lib.half_mul_le (a := x / 4294967296) (b := y / 4294967296) (by omega) (by omega)
  have bb := Lib.half_mul_le (a := x / 4294967296) (b := y % 4294967296) (by omega) (by omega)
  have bc := Lib.half_mul_le (a := x % 4294967296) (b := y / 4294967296) (by omega) (by omega)
  have ba' : x / 4294967296 * (y / 4294967296) < 18446744073709551616 := by omega
  have bb' : x / 4294967296 * (y % 4294967296) < 18446744073709551616 := by omega
  have bc' : x % 4294967296 * (y / 4294967296) < 18446744073709551616 := by omega
  have bh1 : x / 4294967296 * (y / 4294967296) + (x / 4294967296 * (y % 4294967296) + x % 4294967296 * (y % 4294967296) / 4294967296) / 4294967296 < 18446744073709551616 := by omega
  have bh : x / 4294967296 * (y / 4294967296) + (x / 4294967296 * (y % 4294967296) + x % 4294967296 * (y % 4294967296) / 4294967296) / 4294967296 + ((x / 4294967296 * (y % 4294967296) + x % 4294967296 * (y % 4294967296) / 4294967296) % 4294967296 + x % 4294967296 * (y / 4294967296)) / 4294967296 < 18446744073709551616 := by omega
  go_enter Tryd.func91, Tryd.ntmps91
  go_wp2
  simp only [maskN x hx, maskN y hy, divN, ← Int.natCast_mul, ← Int.natCast_add, wrapN _ bd, wrapN _ bb', wrapN _ bt, maskN _ bt, wrapN _ bc', wrapN _ bw, wrapN _ ba', wrapN _ bh1, wrapN _ bh, wrapM (x * y)]
  rw [hhi]
  go_ret2
  exact ⟨rfl, rfl⟩

/-- Whether a number is less than a square root times 2^32. -/
def lessS (p r : Nat) : Bool := decide (r * r / 18446744073709551616 < p)
/-- .. and than a cube root. -/
def lessC (p r : Nat) : Bool := decide (r * r / 18446744073709551616 * r + r * r % 18446744073709551616 * r / 18446744073709551616 < p * 4294967296)

theorem dec_cast (a b : Nat) : decide ((a : Int) < (b : Int)) = decide (a < b) := by simp
theorem mul_at (x y Q R : Nat) (hx : x < 18446744073709551616) (hy : y < 18446744073709551616) (hQ : x * y / 18446744073709551616 = Q) (hR : x * y % 18446744073709551616 = R) (w : World) :
    Calls Tryd.prog 91 #[.int .u64 (x : Int), .int .u64 (y : Int)] w fun e w' => e = .returned (.tuple #[.int .u64 (Q : Int), .int .u64 (R : Int)]) ∧ w = w' := by
  subst hQ hR
  exact hmul_any x y hx hy w

set_option maxRecDepth 100000 in
set_option maxHeartbeats 1000000 in
theorem lessS_any (p r : Nat) (hp : (p : Int) < 4294967296) (hr : r < 34359738368) (b : Nat) (w : World) (hc : w.cell? ⟨b, 0, none⟩ = some (.int .u32 (p : Int))) :
    Calls Tryd.prog 92 #[.int .u64 (r : Int), .pointer (some ⟨b, 0, none⟩)] w fun e w' => e = .returned (.bool (lessS p r)) ∧ w = w' := by
  obtain ⟨Q, hQ⟩ : ∃ Q, r * r / 18446744073709551616 = Q := ⟨_, rfl⟩
  obtain ⟨R, hR⟩ : ∃ R, r * r % 18446744073709551616 = R := ⟨_, rfl⟩
  have HL : Hid (lessS p r = decide (Q < p)) := Lib.hid (by rw [lessS, hQ])
  have HM := Lib.hid (mul_at r r Q R (by omega) (by omega) hQ hR w)
  clear hQ hR
  go_enter Tryd.func92, Tryd.ntmps92
  go_wp2_with ((with_reducible refine HM.out.mono ?_); rintro e w' ⟨rfl, rfl⟩)
  go_ret
  rw [HL.out]
  exact ⟨rfl, rfl⟩

set_option maxRecDepth 100000 in
set_option maxHeartbeats 1000000 in
theorem lessC_any (p r : Nat) (hp : (p : Int) < 4294967296) (hr : r < 34359738368) (b : Nat) (w : World) (hc : w.cell? ⟨b, 0, none⟩ = some (.int .u32 (p : Int))) :
    Calls Tryd.prog 90 #[.int .u64 (r : Int), .pointer (some ⟨b, 0, none⟩)] w fun e w' => e = .returned (.bool (lessC p r)) ∧ w = w' := by
  have h1 : r * r ≤ 34359738367 * 34359738367 := Nat.mul_le_mul (by omega) (by omega)
  have h2 : r * r / 18446744073709551616 ≤ 64 := by omega
  have h3 : r * r / 18446744073709551616 * r ≤ 64 * 34359738367 := Nat.mul_le_mul h2 (by omega)
  have h4 : r * r % 18446744073709551616 < 18446744073709551616 := Nat.mod_lt _ (by omega)
  have h5 : r * r % 18446744073709551616 * r ≤ 18446744073709551615 * 34359738367 := Nat.mul_le_mul (by omega) (by omega)
  have h6 : r * r % 18446744073709551616 * r / 18446744073709551616 ≤ 34359738367 := by omega
  obtain ⟨Q, hQ⟩ : ∃ Q, r * r / 18446744073709551616 = Q := ⟨_, rfl⟩
  obtain ⟨R, hR⟩ : ∃ R, r * r % 18446744073709551616 = R := ⟨_, rfl⟩
  rw [hQ] at h2 h3
  rw [hR] at h4 h5 h6
  obtain ⟨S, hS⟩ : ∃ S, R * r / 18446744073709551616 = S := ⟨_, rfl⟩
  obtain ⟨T, hT⟩ : ∃ T, R * r % 18446744073709551616 = T := ⟨_, rfl⟩
  obtain ⟨U, hU⟩ : ∃ U, Q * r = U := ⟨_, rfl⟩
  rw [hS] at h6
  rw [hU] at h3
  have HL : Hid (lessC p r = decide ((U : Int) + (S : Int) < (p : Int) * 4294967296)) := Lib.hid (by
    rw [lessC, hQ, hR, hS, hU]
    have e : (U : Int) + (S : Int) < (p : Int) * 4294967296 ↔ U + S < p * 4294967296 := by omega
    simp only [e])
  have HM := Lib.hid (mul_at r r Q R (by omega) (by omega) hQ hR w)
  have HM2 := Lib.hid (mul_at R r S T (by omega) (by omega) hS hT w)
  have hW : IntKind.u64.wrap ((Q : Int) * (r : Int)) = (U : Int) := by rw [← Int.natCast_mul, hU]; exact wrapN _ (by omega)
  clear hQ hR hS hT hU h1 h5 h4
  go_enter Tryd.func90, Tryd.ntmps90
  go_wp2_with ((first | (with_reducible refine HM.out.mono ?_) | (with_reducible refine HM2.out.mono ?_)); rintro e w' ⟨rfl, rfl⟩)
  go_ret
  rw [HL.out]
  exact ⟨rfl, rfl⟩
end Go.Proofs.YtegojdblaanclaaDoor
/- The contracts of the roots: what is behind the point, by trying one bit behind the other. -/
namespace Go.Proofs.YtegojdblaanclaaDoor
open Go.RowKit

/-- A root so far, by so many of its 35 bits. -/
def rootN (f : Nat → Bool) : Nat → Nat
  | 0 => 0
  | k + 1 => if f (rootN f k ||| 2 ^ (34 - k)) then rootN f k ||| 2 ^ (34 - k) else rootN f k
theorem rootN_lt (f : Nat → Bool) (k : Nat) : rootN f k < 34359738368 := by
  induction k with
  | zero => exact (by decide : (0 : Nat) < 34359738368)
  | succ k ih =>
    have h : 2 ^ (34 - k) < 2 ^ 35 := Nat.pow_lt_pow_right (by omega) (by omega)
    have h2 : rootN f k ||| 2 ^ (34 - k) < 2 ^ 35 := Nat.or_lt_two_pow ih h
    rw [rootN]
    split
    · exact h2
    · exact ih
/-- What is behind the point of the square root of p, times 2^32. -/
def rootS (p : Nat) : Nat := rootN (lessS p) 35 % 4294967296
/-- .. and of the cube root. -/
def rootC (p : Nat) : Nat := rootN (lessC p) 35 % 4294967296
theorem bit_next (k : Nat) : 2 ^ 34 / 2 ^ k / 2 = 2 ^ 34 / 2 ^ (k + 1) := by rw [Nat.div_div_eq_div_mul, ← Nat.pow_succ]
theorem bit_is (k : Nat) (hk : k < 35) : 2 ^ 34 / 2 ^ k = 2 ^ (34 - k) := Nat.pow_div (by omega) (by omega)

set_option maxRecDepth 100000 in
set_option maxHeartbeats 2000000 in
theorem behindS_any (p b : Nat) (hp : (p : Int) < 4294967296) (w : World) (hc : w.cell? ⟨b, 0, none⟩ = some (.int .u32 (p : Int))) :
    Calls Tryd.prog 89 #[.func (.func 92) #[] #[.pointer (some ⟨b, 0, none⟩)]] w fun e w' => e = .returned (.int .u32 ((rootS p : Nat) : Int)) ∧ w = w' := by
  have HC := Lib.hid hc
  have HP := Lib.hid hp
  clear hc hp
  go_enter Tryd.func89, Tryd.ntmps89
  go_wp2_with fail
  go_loop [3, 4] (fun rv bv => ∃ k R B : Nat, k ≤ 35 ∧ rv = .int .u64 (R : Int) ∧ bv = .int .u64 (B : Int) ∧ Hid (R = rootN (lessS p) k) ∧ Hid (B = 2 ^ 34 / 2 ^ k)) (fun _ bv => (intOf bv).toNat)
  case atStart => exact ⟨0, 0, 17179869184, by omega, rfl, rfl, Lib.hid rfl, Lib.hid rfl⟩
  case round =>
    obtain ⟨k, R, B, hk, rfl, rfl, HR, HB⟩ := hrel
    by_cases hlt : k < 35
    · have hB : B = 2 ^ (34 - k) := by rw [HB.out, bit_is k hlt]
      have hB0 : 0 < B := by rw [hB]; exact Nat.pow_pos (by omega)
      have hB1 : B < 2 ^ 35 := by rw [hB]; exact Nat.pow_lt_pow_right (by omega) (by omega)
      have hR1 : R < 2 ^ 35 := by rw [HR.out]; exact rootN_lt _ _
      have hor := bits_or_u64_nat R B (by omega) (by omega)
      have hO1 : R ||| B < 2 ^ 35 := Nat.or_lt_two_pow hR1 hB1
      obtain ⟨O, hO⟩ : ∃ O, R ||| B = O := ⟨_, rfl⟩
      rw [hO] at hor hO1
      have hB2 : (B : Int) < 34359738368 := by omega
      have hR2 : (R : Int) < 34359738368 := by omega
      have hO2 : O < 34359738368 := by omega
      have HS : Hid (rootN (lessS p) (k + 1) = if lessS p O then O else R) := Lib.hid (by rw [rootN, ← HR.out, ← hB, hO])
      have HN : Hid (B / 2 = 2 ^ 34 / 2 ^ (k + 1)) := Lib.hid (by rw [HB.out]; exact bit_next k)
      clear hB hO hB1 hR1 hO1
      by_cases hf : lessS p O = true
      · have HF := Lib.hid hf
        have HM := Lib.hid (lessS_any p O HP.out hO2 b w HC.out)
        rw [hf] at HM
        clear hf hO2
        go_wp2_with ((with_reducible refine HM.out.mono ?_); rintro e w' ⟨rfl, rfl⟩)
        exact ⟨⟨k + 1, O, B / 2, by omega, rfl, by go_num, Lib.hid (by rw [HS.out, if_pos HF.out]), HN⟩, by simp [intOf]; omega⟩
      · have hf' : lessS p O = false := by simpa using hf
        have HF := Lib.hid hf
        have HM := Lib.hid (lessS_any p O HP.out hO2 b w HC.out)
        rw [hf'] at HM
        clear hf hf' hO2
        go_wp2_with ((with_reducible refine HM.out.mono ?_); rintro e w' ⟨rfl, rfl⟩)
        exact ⟨⟨k + 1, R, B / 2, by omega, rfl, by go_num, Lib.hid (by rw [HS.out, if_neg HF.out]), HN⟩, by simp [intOf]; omega⟩
    · obtain rfl : k = 35 := by omega
      obtain rfl : B = 0 := HB.out
      have hR1 : R < 2 ^ 35 := by rw [HR.out]; exact rootN_lt _ _
      have HW : Hid (((rootS p : Nat) : Int) = (R : Int) % 4294967296) := Lib.hid (by rw [rootS, ← HR.out]; simp)
      go_wp2
      go_ret
      rw [HW.out]
      exact ⟨rfl, rfl⟩

set_option maxRecDepth 100000 in
set_option maxHeartbeats 1000000 in
theorem sqrt_any (p : Nat) (hp : (p : Int) < 4294967296) (w : World) :
    Calls Tryd.prog 78 #[.int .u32 (p : Int)] w fun e w' => e = .returned (.int .u32 ((rootS p : Nat) : Int)) ∧ Below w.heap.size w w' := by
  go_enter Tryd.func78, Tryd.ntmps78
  go_wp2_with ((refine (behindS_any p _ hp _ (by simp)).mono ?_); rintro e w' ⟨rfl, rfl⟩)
  go_ret
  exact ⟨rfl, ba (Below.refl _ _) _⟩

set_option maxRecDepth 100000 in
set_option maxHeartbeats 2000000 in
theorem behindC_any (p b : Nat) (hp : (p : Int) < 4294967296) (w : World) (hc : w.cell? ⟨b, 0, none⟩ = some (.int .u32 (p : Int))) :
    Calls Tryd.prog 89 #[.func (.func 90) #[] #[.pointer (some ⟨b, 0, none⟩)]] w fun e w' => e = .returned (.int .u32 ((rootC p : Nat) : Int)) ∧ w = w' := by
  have HC := Lib.hid hc
  have HP := Lib.hid hp
  clear hc hp
  go_enter Tryd.func89, Tryd.ntmps89
  go_wp2_with fail
  go_loop [3, 4] (fun rv bv => ∃ k R B : Nat, k ≤ 35 ∧ rv = .int .u64 (R : Int) ∧ bv = .int .u64 (B : Int) ∧ Hid (R = rootN (lessC p) k) ∧ Hid (B = 2 ^ 34 / 2 ^ k)) (fun _ bv => (intOf bv).toNat)
  case atStart => exact ⟨0, 0, 17179869184, by omega, rfl, rfl, Lib.hid rfl, Lib.hid rfl⟩
  case round =>
    obtain ⟨k, R, B, hk, rfl, rfl, HR, HB⟩ := hrel
    by_cases hlt : k < 35
    · have hB : B = 2 ^ (34 - k) := by rw [HB.out, bit_is k hlt]
      have hB0 : 0 < B := by rw [hB]; exact Nat.pow_pos (by omega)
      have hB1 : B < 2 ^ 35 := by rw [hB]; exact Nat.pow_lt_pow_right (by omega) (by omega)
      have hR1 : R < 2 ^ 35 := by rw [HR.out]; exact rootN_lt _ _
      have hor := bits_or_u64_nat R B (by omega) (by omega)
      have hO1 : R ||| B < 2 ^ 35 := Nat.or_lt_two_pow hR1 hB1
      obtain ⟨O, hO⟩ : ∃ O, R ||| B = O := ⟨_, rfl⟩
      rw [hO] at hor hO1
      have hB2 : (B : Int) < 34359738368 := by omega
      have hR2 : (R : Int) < 34359738368 := by omega
      have hO2 : O < 34359738368 := by omega
      have HS : Hid (rootN (lessC p) (k + 1) = if lessC p O then O else R) := Lib.hid (by rw [rootN, ← HR.out, ← hB, hO])
      have HN : Hid (B / 2 = 2 ^ 34 / 2 ^ (k + 1)) := Lib.hid (by rw [HB.out]; exact bit_next k)
      clear hB hO hB1 hR1 hO1
      by_cases hf : lessC p O = true
      · have HF := Lib.hid hf
        have HM := Lib.hid (lessC_any p O HP.out hO2 b w HC.out)
        rw [hf] at HM
        clear hf hO2
        go_wp2_with ((with_reducible refine HM.out.mono ?_); rintro e w' ⟨rfl, rfl⟩)
        exact ⟨⟨k + 1, O, B / 2, by omega, rfl, by go_num, Lib.hid (by rw [HS.out, if_pos HF.out]), HN⟩, by simp [intOf]; omega⟩
      · have hf' : lessC p O = false := by simpa using hf
        have HF := Lib.hid hf
        have HM := Lib.hid (lessC_any p O HP.out hO2 b w HC.out)
        rw [hf'] at HM
        clear hf hf' hO2
        go_wp2_with ((with_reducible refine HM.out.mono ?_); rintro e w' ⟨rfl, rfl⟩)
        exact ⟨⟨k + 1, R, B / 2, by omega, rfl, by go_num, Lib.hid (by rw [HS.out, if_neg HF.out]), HN⟩, by simp [intOf]; omega⟩
    · obtain rfl : k = 35 := by omega
      obtain rfl : B = 0 := HB.out
      have hR1 : R < 2 ^ 35 := by rw [HR.out]; exact rootN_lt _ _
      have HW : Hid (((rootC p : Nat) : Int) = (R : Int) % 4294967296) := Lib.hid (by rw [rootC, ← HR.out]; simp)
      go_wp2
      go_ret
      rw [HW.out]
      exact ⟨rfl, rfl⟩

set_option maxRecDepth 100000 in
set_option maxHeartbeats 1000000 in
theorem cbrt_any (p : Nat) (hp : (p : Int) < 4294967296) (w : World) :
    Calls Tryd.prog 77 #[.int .u32 (p : Int)] w fun e w' => e = .returned (.int .u32 ((rootC p : Nat) : Int)) ∧ Below w.heap.size w w' := by
  go_enter Tryd.func77, Tryd.ntmps77
  go_wp2_with ((refine (behindC_any p _ hp _ (by simp)).mono ?_); rintro e w' ⟨rfl, rfl⟩)
  go_ret
  exact ⟨rfl, ba (Below.refl _ _) _⟩
end Go.Proofs.YtegojdblaanclaaDoor
/- The primes, and the numbers that the roots tell: reckoned. -/
namespace Go.Proofs.YtegojdblaanclaaDoor

/-- The first 64 primes. -/
def hPrimes : List Nat := [2, 3, 5, 7, 11, 13, 17, 19, 23, 29, 31, 37, 41, 43, 47, 53, 59, 61, 67, 71, 73, 79, 83, 89, 97, 101, 103, 107, 109, 113, 127, 131, 137, 139, 149, 151, 157, 163, 167, 173, 179, 181, 191, 193, 197, 199, 211, 223, 227, 229, 233, 239, 241, 251, 257, 263, 269, 271, 277, 281, 283, 293, 307, 311]
/-- A root, tried from the highest bit on. -/
def rootA (f : Nat → Bool) : Nat → Nat → Nat
  | 0, r => r
  | b + 1, r => bif f (r ||| 2 ^ b) then rootA f b (r ||| 2 ^ b) else rootA f b r
theorem rootA_is (f : Nat → Bool) (d : Nat) : ∀ k, k + d = 35 → rootA f d (rootN f k) = rootN f 35 := by
  induction d with
  | zero => intro k hk; obtain rfl : k = 35 := by omega
            rfl
  | succ d ih =>
    intro k hk
    have h := ih (k + 1) (by omega)
    rw [rootN, show 34 - k = d by omega] at h
    rw [rootA]
    by_cases hf : f (rootN f k ||| 2 ^ d) = true
    · rw [if_pos hf] at h
      rw [hf]
      exact h
    · rw [if_neg hf] at h
      rw [show f (rootN f k ||| 2 ^ d) = false by simpa using hf]
      exact h
theorem rootS_is (p : Nat) : rootS p = rootA (lessS p) 35 0 % 4294967296 := by rw [rootS, ← rootA_is (lessS p) 35 0 rfl]; rfl
theorem rootC_is (p : Nat) : rootC p = rootA (lessC p) 35 0 % 4294967296 := by rw [rootC, ← rootA_is (lessC p) 35 0 rfl]; rfl

/-- One step of the search. -/
def stepP (L : List Nat) (n : Nat) : List Nat := if hasF n L then L else L ++ [n]
theorem step_ok : ∀ j, j < 310 → stepP (hPrimes.filter fun x => decide (x < j + 2)) (j + 2) = hPrimes.filter fun x => decide (x < j + 3) := by decide +kernel
theorem lessAt_is (j : Nat) (h : j ≤ 310) : lessAt j = hPrimes.filter fun x => decide (x < j + 2) := by
  induction j with
  | zero => decide +kernel
  | succ j ih =>
    have e : lessAt (j + 1) = stepP (lessAt j) (j + 2) := rfl
    rw [e, ih (by omega), step_ok j (by omega)]
theorem bef64 : ∀ j, j < 310 → (lessAt j).length < 64 := fun j h => by
  have key : ∀ j, j < 310 → (hPrimes.filter fun x => decide (x < j + 2)).length < 64 := by decide +kernel
  rw [lessAt_is j (by omega)]; exact key j h
theorem end64 : lessAt 310 = hPrimes := by rw [lessAt_is 310 (Nat.le_refl _)]; decide +kernel
theorem bef8 : ∀ j, j < 18 → (lessAt j).length < 8 := fun j h => by
  have key : ∀ j, j < 18 → (hPrimes.filter fun x => decide (x < j + 2)).length < 8 := by decide +kernel
  rw [lessAt_is j (by omega)]; exact key j h
theorem end8 : lessAt 18 = hPrimes.take 8 := by rw [lessAt_is 18 (by omega)]; decide +kernel
theorem keys_ok : (hPrimes.map rootC) = hkeysL := by
  have e : hPrimes.map rootC = hPrimes.map fun p => rootA (lessC p) 35 0 % 4294967296 := List.map_congr_left fun p _ => rootC_is p
  rw [e]; decide +kernel
theorem start_ok : ((hPrimes.take 8).map rootS) = startL := by
  have e : (hPrimes.take 8).map rootS = (hPrimes.take 8).map fun p => rootA (lessS p) 35 0 % 4294967296 := List.map_congr_left fun p _ => rootS_is p
  rw [e]; decide +kernel
end Go.Proofs.YtegojdblaanclaaDoor
/- Arrays in memory: a block known whole, stored whole. -/
namespace Go.Proofs.YtegojdblaanclaaDoor
open Go.RowKit

theorem words_one (L : List Nat) : ∀ v ∈ L.map wv, v.oneCell' = true := by
  intro v hv
  obtain ⟨x, _, rfl⟩ := List.mem_map.1 hv
  rfl
end Go.Proofs.YtegojdblaanclaaDoor
