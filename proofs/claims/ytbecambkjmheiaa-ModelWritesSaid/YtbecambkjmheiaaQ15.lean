/- Texts of this seat, one behind the other: NRDo, NRRight, NRWhy. -/
import Derived.Test.YtbecambkjmheiaaQ07
import Derived.Test.YtbecambkjmheiaaQ08
import Derived.Test.YtbecambkjmheiaaQ09
import Derived.Test.YtbecambkjmheiaaQ13
import Derived.Test.YtbecambkjmheiaaQ14
/- The reference's Do: the cells then. -/
namespace Go.Proofs.Ytbecambkjmheiaa
open Go.RowKit

theorem clo_snoc (a : Nat) (L : List CL) (k : Nat) (h : k < L.length) : clo a (L.take (k + 1)) = clo a (L.take k) ++ (if (L.getD k default).n < a then [L.getD k default] else []) := by
  rw [List.take_succ_eq_append_getElem h, cgetD h]
  unfold clo
  rw [List.filter_append]
  congr 1
  by_cases h2 : L[k].n < a <;> simp [h2]
theorem chi_snoc (a : Nat) (L : List CL) (k : Nat) (h : k < L.length) : chi a (L.take (k + 1)) = chi a (L.take k) ++ (if a ≤ (L.getD k default).n then [L.getD k default] else []) := by
  rw [List.take_succ_eq_append_getElem h, cgetD h]
  unfold chi
  rw [List.filter_append]
  congr 1
  by_cases h2 : a ≤ L[k].n <;> simp [h2]
theorem cmid_snoc (L : List CL) (G : CL → CL) (a k : Nat) : cmid L G a (k + 1) = cmid L G a k ++ (if (G (cAt L (a + k))).s ≠ 0 then [G (cAt L (a + k))] else []) := by
  unfold cmid
  rw [List.range_succ, List.map_append, List.filter_append]
  congr 1
  by_cases h2 : (G (cAt L (a + k))).s = 0 <;> simp [h2]
theorem clo_le (a : Nat) (L : List CL) : (clo a L).length ≤ L.length := List.length_filter_le _ _
theorem chi_le (a : Nat) (L : List CL) : (chi a L).length ≤ L.length := List.length_filter_le _ _
theorem cmid_le (L : List CL) (G : CL → CL) (a k : Nat) : (cmid L G a k).length ≤ k := by
  unfold cmid
  exact Nat.le_trans (List.length_filter_le _ _) (by simp)
theorem no_snoc {W : World} {b : Nat} {v : Value} {M N : List CL} {x : CL} (e : N = M ++ [x]) (h : W.ownsRow b 45 3 v (M.length + 1) (ccells M ++ cc x)) : NO W b v N.length N := by
  subst e
  rw [List.length_append]
  show W.ownsRow _ _ _ _ _ _
  rw [ccells_more, ccells_one1]
  exact h

set_option maxRecDepth 100000 in
set_option maxHeartbeats 2000000 in
theorem nrdo_any (A : Option Addr) (n cap f len wh : Nat) (T : List UInt8) (L : List CL) (w : World) (hA : CR w A L) (hl : L.length = n) (hR : CRt L) (h1 : 1 ≤ len) (h2 : len ≤ 224) (h3 : f + len ≤ 18446744073709551616) (hw : wh = 1 ∨ wh = 2 ∨ wh = 3 ∨ wh = 4) (hT : wh = 1 → T.length = len) :
    Calls Try.prog 22 #[.slice A n cap, .agg #[.int .i64 wh, vu f, vu len, sv T]] w fun e w' => ∃ B d, e = .returned (.slice B (cdo L (cF wh (cG wh T) f len) (f / 32) (mK f len)).length d) ∧ CR w' B (cdo L (cF wh (cG wh T) f len) (f / 32) (mK f len)) ∧ Below w.heap.size w w' := by
  obtain ⟨ti, hi, hz0, hz1, hz2⟩ := info_parts infoN
  have hn64 : n ≤ 64 := by have := hR.1; omega
  have hK8 := mK_8 (f := f) h2
  have hK1 : 1 ≤ mK f len := by unfold mK; omega
  have hat : (f + (len - 1)) / 32 = f / 32 + mK f len - 1 := by unfold mK; omega
  have ha59 : f / 32 + mK f len ≤ 576460752303423488 := by unfold mK; omega
  have HOne : Hid (∀ W, Below w.heap.size w W → ∀ i : Nat, i < mK f len → ∀ x : Int, x = ((f / 32 : Nat) : Int) + (i : Int) → Calls Try.prog 45 #[.slice A n cap, .int .u64 x, .agg #[.int .i64 (wh : Int), .int .u64 (f : Int), .int .u64 (len : Int), sv T]] W fun e w' => e = .returned (.agg #[vu (cF wh (cG wh T) f len (cAt L (f / 32 + i))).n, .int .i64 (cF wh (cG wh T) f len (cAt L (f / 32 + i))).s, sv (cF wh (cG wh T) f len (cAt L (f / 32 + i))).d]) ∧ Below W.heap.size W w') := Lib.hid fun W hb i hi x hx => by
    have := nrone_any A n cap (f / 32 + i) f len wh T L W (hA.later hb) hl hR (by omega) (by omega) hw hT
    have e : x = ((f / 32 + i : Nat) : Int) := by omega
    rw [e]; exact this
  have HLast : Hid (∀ W, Calls Try.prog 44 #[.agg #[.int .u64 (f : Int), .int .u64 (len : Int)]] W fun e w' => e = .returned (.int .u64 ((f : Int) + ((len : Int) - 1))) ∧ Below W.heap.size W w') := Lib.hid fun W => rlast_ok (f : Int) (len : Int) W (by omega) (by omega) (by omega)
  have hq : (f : Int) / 32 = ((f / 32 : Nat) : Int) := by omega
  have hq2 : ((f : Int) + ((len : Int) - 1)) / 32 = ((f / 32 : Nat) : Int) + ((mK f len : Nat) : Int) - 1 := by omega
  have f0 : (0 : Int) ≤ (f : Int) := by omega
  have f1 : (f : Int) ≤ 18446744073709551615 := by omega
  have l0 : (0 : Int) ≤ (f : Int) + ((len : Int) - 1) := by omega
  have l1 : (f : Int) + ((len : Int) - 1) ≤ 18446744073709551615 := by omega
  obtain ⟨G, hG⟩ : ∃ G, cF wh (cG wh T) f len = G := ⟨_, rfl⟩
  rw [hG] at HOne ⊢
  obtain ⟨a, ha⟩ : ∃ a, f / 32 = a := ⟨_, rfl⟩
  obtain ⟨K, hKK⟩ : ∃ K, mK f len = K := ⟨_, rfl⟩
  rw [ha] at HOne hq hq2 hat ha59 ⊢
  rw [hKK] at HOne hq2 hat ha59 hK8 hK1 ⊢
  obtain ⟨P1, hP1⟩ : ∃ P1 : Nat → List CL, ∀ k, P1 k = clo a (L.take k) := ⟨_, fun _ => rfl⟩
  obtain ⟨P2, hP2⟩ : ∃ P2 : Nat → List CL, ∀ k, P2 k = clo a L ++ cmid L G a k := ⟨_, fun _ => rfl⟩
  obtain ⟨P3, hP3⟩ : ∃ P3 : Nat → List CL, ∀ k, P3 k = clo a L ++ cmid L G a K ++ chi (a + K) (L.take k) := ⟨_, fun _ => rfl⟩
  have HP1 : Hid (P1 0 = [] ∧ P1 n = P2 0 ∧ P2 K = P3 0 ∧ P3 n = cdo L G a K) := Lib.hid ⟨by rw [hP1]; rfl, by rw [hP1, hP2, List.take_of_length_le (by omega)]; simp [cmid], by rw [hP2, hP3]; simp [chi], by rw [hP3, List.take_of_length_le (by omega)]; rfl⟩
  have HS1 : Hid (∀ k, k < n → P1 (k + 1) = P1 k ++ (if (L.getD k default).n < a then [L.getD k default] else []) ∧ (P1 k).length ≤ 64) := Lib.hid fun k hk => ⟨by rw [hP1, hP1]; exact clo_snoc a L k (by omega), by rw [hP1]; exact Nat.le_trans (clo_le _ _) (by simp; omega)⟩
  have HS2 : Hid (∀ k, k < K → P2 (k + 1) = P2 k ++ (if (G (cAt L (a + k))).s ≠ 0 then [G (cAt L (a + k))] else []) ∧ (P2 k).length ≤ 72) := Lib.hid fun k hk => ⟨by rw [hP2, hP2, cmid_snoc, List.append_assoc], by rw [hP2, List.length_append]; have := clo_le a L; have := cmid_le L G a k; omega⟩
  have HS3 : Hid (∀ k, k < n → P3 (k + 1) = P3 k ++ (if a + K ≤ (L.getD k default).n then [L.getD k default] else []) ∧ (P3 k).length ≤ 136) := Lib.hid fun k hk => ⟨by rw [hP3, hP3, chi_snoc _ _ _ (by omega : k < L.length), List.append_assoc, List.append_assoc, List.append_assoc], by rw [hP3, List.length_append, List.length_append]; have := clo_le a L; have := cmid_le L G a K; have := chi_le (a + K) (L.take k); have h9 : (L.take k).length ≤ 64 := (by simp; omega); omega⟩
  obtain ⟨Z, hZ⟩ : ∃ Z, cdo L G a K = Z := ⟨_, rfl⟩
  rw [hZ] at HP1 ⊢
  obtain ⟨Y, hY⟩ : ∃ Y : Nat → CL, ∀ i, Y i = G (cAt L (a + i)) := ⟨_, fun _ => rfl⟩
  simp only [← hY] at HOne HS2
  have HA := Lib.hid hA
  have HL := Lib.hid hl
  have hK1i : (1 : Int) ≤ (K : Int) := by omega
  have ha59i : (a : Int) + (K : Int) ≤ 576460752303423488 := by omega
  have HW : Hid (∀ i : Nat, i < K → IntKind.u64.wrap ((a : Int) + (i : Int) + 1) = (a : Int) + (i : Int) + 1) := Lib.hid fun i hi => IntWalk.u64_in _ ⟨by omega, by omega⟩
  clear hA hl hR h1 h2 h3 hw hT hG ha hKK hP1 hP2 hP3 hZ hY hat ha59i ha59
  show Calls Try.prog 22 #[.slice A n cap, .agg #[.int .i64 (wh : Int), .int .u64 (f : Int), .int .u64 (len : Int), sv T]] w _
  generalize (f : Int) = fI at *
  generalize (len : Int) = lI at *
  generalize (wh : Int) = wI at *
  go_enter Try.func22, Try.ntmps22
  go_wp2_with fail
  refine (HLast.out _).mono ?_
  rintro e w1 ⟨rfl, hb1⟩
  have C1 : Hid (Blk w1 w.heap.size 34 #[.int .i64 wI, .int .u64 fI, .int .u64 lI, sv T]) := Lib.hid ((Blk.new w _ _).below hb1)
  have HB1 : Hid (Below w.heap.size w w1) := Lib.hid (bt (ba (Below.refl w.heap.size w) _) hb1)
  have hs1 : w.heap.size + 1 ≤ w1.heap.size := by have := C1.out.lt; omega
  have HOO : Hid (NO (w1.alloc (.cells #[] 45)) (w.heap.size + 1) (.slice (some ⟨w1.heap.size, 0, none⟩) 0 0) (P1 0).length (P1 0)) := Lib.hid (by rw [HP1.out.1]; exact own_nil (Blk.new _ _ _) hs1)
  have HC0 : Hid (Blk (w1.alloc (.cells #[] 45)) w.heap.size 34 #[.int .i64 wI, .int .u64 fI, .int .u64 lI, sv T]) := Lib.hid (C1.out.alloc _)
  have HBB : Hid (Below w.heap.size w (w1.alloc (.cells #[] 45))) := Lib.hid (ba HB1.out _)
  clear hb1
  go_wp2_with fail
  simp only [hq2]
  clear hq hq2
  go_loopw [7, 24] (fun ov iv wr => ∃ k : Nat, k ≤ n ∧ iv = .int .i64 k ∧ Hid (Blk wr w.heap.size 34 #[.int .i64 wI, .int .u64 fI, .int .u64 lI, sv T]) ∧ Hid (NO wr (w.heap.size + 1) ov (P1 k).length (P1 k)) ∧ Hid (Below w.heap.size w wr)) (fun _ i _ => n - (intOf i).toNat)
  case atStart => exact ⟨0, Nat.zero_le _, rfl, HC0, HOO, HBB⟩
  case round =>
    obtain ⟨k, hk, rfl, HC, HO, HB⟩ := hrel
    by_cases hlt : k < n
    · obtain ⟨g, off, rfl, c0, c1, c2⟩ := (HA.out.later HB.out) k (by rw [HL.out]; exact hlt)
      obtain ⟨hst, hpl⟩ := HS1.out k hlt
      have i0 : (0 : Int) ≤ (k : Int) := by omega
      have i1 : (k : Int) < (n : Int) := by omega
      generalize L.getD k default = x at *
      by_cases hx : x.n < a
      · rw [if_pos hx] at hst
        have HST := Lib.hid hst
        have hxi : (x.n : Int) < (a : Int) := by omega
        have hown : NO ((wr.alloc (.cells #[vu x.n, .int .i64 x.s, sv x.d] 45)).alloc (.cells #[vu x.n, .int .i64 x.s, sv x.d] 45)) (w.heap.size + 1) u7 (P1 k).length (P1 k) := no_later HO.out (ba (ba (Below.refl _ _) _) _)
        have hnews : ∀ (j : Nat) (u : Value), (cc x)[j]? = some u → (((wr.alloc (.cells #[vu x.n, .int .i64 x.s, sv x.d] 45)).alloc (.cells #[vu x.n, .int .i64 x.s, sv x.d] 45))).cell? ((⟨wr.heap.size + 1, 0, none⟩ : Addr).add j) = some u := fun j u hj => by
          have hbl : Blk ((wr.alloc (.cells #[vu x.n, .int .i64 x.s, sv x.d] 45)).alloc (.cells #[vu x.n, .int .i64 x.s, sv x.d] 45)) (wr.heap.size + 1) 45 #[vu x.n, .int .i64 x.s, sv x.d] := Blk.newAt (by simp) _ _
          rw [Addr.add_lit, Nat.zero_add, hbl.cell, List.getElem?_toArray]
          exact hj
        have h1c : ∀ u ∈ cc x, u.oneCell' = true := by
          intro u hu; simp [cc] at hu; rcases hu with rfl | rfl | rfl <;> rfl
        have HBW : Hid (Below w.heap.size w ((wr.alloc (.cells #[vu x.n, .int .i64 x.s, sv x.d] 45)).alloc (.cells #[vu x.n, .int .i64 x.s, sv x.d] 45))) := Lib.hid (HB.out.trans ((ba (ba (Below.refl _ _) _) _).mono HB.out.size))
        have CW : Hid (Blk ((wr.alloc (.cells #[vu x.n, .int .i64 x.s, sv x.d] 45)).alloc (.cells #[vu x.n, .int .i64 x.s, sv x.d] 45)) w.heap.size 34 #[.int .i64 wI, .int .u64 fI, .int .u64 lI, sv T]) := Lib.hid (HC.out.below (ba (ba (Below.refl _ _) _) _))
        have hbs : w.heap.size + 1 ≤ (((wr.alloc (.cells #[vu x.n, .int .i64 x.s, sv x.d] 45)).alloc (.cells #[vu x.n, .int .i64 x.s, sv x.d] 45))).heap.size := CW.out.lt
        clear hst
        go_wp2_with (at_builtin; refine wpList_append_own _ rfl _ _ 22 rfl (w.heap.size + 1) 45 ti _ 3 32 Try.underlying22 hi hz0 hz1 hz2 rfl (by decide) _ _ _ rfl hown ⟨wr.heap.size + 1, 0, none⟩ 1 1 (cc x) rfl rfl hnews h1c (by unfold maxLen; omega) (by omega) hbs ?_; intro v3 w3 hown3 hgrow3 _)
        exact ⟨⟨k + 1, by omega, by go_num, Lib.hid (CW.out.grown hgrow3 (fun e => by have := (no_lt hown e.symm).1; omega)), Lib.hid (no_snoc HST.out hown3), Lib.hid (HBW.out.grown hgrow3 (by omega) (fun q e => by have := (no_lt hown e).1; omega))⟩, by simp [intOf]; omega⟩
      · rw [if_neg hx, List.append_nil] at hst
        have hxi : ¬ ((x.n : Int) < (a : Int)) := by omega
        have CW : Hid (Blk (wr.alloc (.cells #[vu x.n, .int .i64 x.s, sv x.d] 45)) w.heap.size 34 #[.int .i64 wI, .int .u64 fI, .int .u64 lI, sv T]) := Lib.hid (HC.out.alloc _)
        have OW : Hid (NO (wr.alloc (.cells #[vu x.n, .int .i64 x.s, sv x.d] 45)) (w.heap.size + 1) u7 (P1 (k + 1)).length (P1 (k + 1))) := Lib.hid (by rw [hst]; exact no_later HO.out (ba (Below.refl _ _) _))
        have BW : Hid (Below w.heap.size w (wr.alloc (.cells #[vu x.n, .int .i64 x.s, sv x.d] 45))) := Lib.hid (ba HB.out _)
        clear hst
        go_wp2
        exact ⟨⟨k + 1, by omega, by go_num, CW, OW, BW⟩, by simp [intOf]; omega⟩
    · obtain rfl : n = k := by omega
      go_wp2_with fail
      go_loopw [7, 10] (fun ov iv wr => ∃ k : Nat, k ≤ K ∧ iv = .int .u64 ((a : Int) + (k : Int)) ∧ Hid (Blk wr w.heap.size 34 #[.int .i64 wI, .int .u64 fI, .int .u64 lI, sv T]) ∧ Hid (NO wr (w.heap.size + 1) ov (P2 k).length (P2 k)) ∧ Hid (Below w.heap.size w wr)) (fun _ i _ => a + K - (intOf i).toNat)
      case atStart => exact ⟨0, Nat.zero_le _, by go_num, HC, Lib.hid (by rw [← HP1.out.2.1]; exact HO.out), HB⟩
      case round =>
        clear HC HO HB
        obtain ⟨k, hk, rfl, HC, HO, HB⟩ := hrel
        by_cases hlt : k < K
        · obtain ⟨hst, hpl⟩ := HS2.out k hlt
          have hlti : (a : Int) + (k : Int) ≤ (a : Int) + (K : Int) - 1 := by omega
          have hwk := HW.out k hlt
          have HO1 := Lib.hid (fun W hb => HOne.out W hb k hlt _ rfl)
          generalize Y k = x at *
          obtain ⟨q0, r0⟩ := HC.out.at_ (i := 0) (v := .int .i64 wI) rfl
          obtain ⟨q1, r1⟩ := HC.out.at_ (i := 1) (v := .int .u64 fI) rfl
          obtain ⟨q2, r2⟩ := HC.out.at_ (i := 2) (v := .int .u64 lI) rfl
          obtain ⟨q3, r3⟩ := HC.out.at_ (i := 3) (v := sv T) rfl
          have hfl : ∀ W, (Instr.field 45 (.agg #[vu x.n, .int .i64 x.s, sv x.d]) 1).run Try.prog W = .ok (.int .i64 x.s) W := fun W => rfl
          go_wp2_with fail
          refine (HO1.out _ HB.out).mono ?_
          rintro e w2 ⟨rfl, hb2⟩
          have HC2 := Lib.hid (HC.out.below hb2)
          have HO2 := Lib.hid (no_later HO.out hb2)
          have HB2 := Lib.hid (bt HB.out hb2)
          clear hb2 HC HO HB
          by_cases hx : x.s = 0
          · rw [if_neg (fun h => h hx), List.append_nil] at hst
            have hx1 : (x.s != 0) = false := by simpa using hx
            have hx2 : decide (x.s = 0) = true := decide_eq_true hx
            have OW : Hid (NO w2 (w.heap.size + 1) u7 (P2 (k + 1)).length (P2 (k + 1))) := Lib.hid (by rw [hst]; exact HO2.out)
            have hx3 : (x.s == 0) = true := by simpa using hx
            clear hst hx
            go_wp2
            exact ⟨⟨k + 1, by omega, by go_num, HC2, OW, HB2⟩, by simp [intOf]; omega⟩
          · rw [if_pos hx] at hst
            have HST := Lib.hid hst
            clear hst
            have hx1 : (x.s != 0) = true := by simpa using hx
            have hx2 : decide (x.s = 0) = false := decide_eq_false hx
            have hx3 : (x.s == 0) = false := by simpa using hx
            clear hx
            obtain ⟨u0, t0⟩ := HC2.out.at_ (i := 0) (v := .int .i64 wI) rfl
            obtain ⟨u1, t1⟩ := HC2.out.at_ (i := 1) (v := .int .u64 fI) rfl
            obtain ⟨u2, t2⟩ := HC2.out.at_ (i := 2) (v := .int .u64 lI) rfl
            obtain ⟨u3, t3⟩ := HC2.out.at_ (i := 3) (v := sv T) rfl
            go_wp2_with fail
            refine (HO1.out _ HB2.out).mono ?_
            rintro e wr ⟨rfl, hb3⟩
            have HC := Lib.hid (HC2.out.below hb3)
            have HO := Lib.hid (no_later HO2.out hb3)
            have HB := Lib.hid (bt HB2.out hb3)
            clear hb3 HC2 HO2 HB2
            have hown : NO (wr.alloc (.cells #[vu x.n, .int .i64 x.s, sv x.d] 45)) (w.heap.size + 1) u7 (P2 k).length (P2 k) := no_later HO.out (ba (Below.refl _ _) _)
            have hnews : ∀ (j : Nat) (u : Value), (cc x)[j]? = some u → ((wr.alloc (.cells #[vu x.n, .int .i64 x.s, sv x.d] 45))).cell? ((⟨wr.heap.size, 0, none⟩ : Addr).add j) = some u := fun j u hj => by
              have hbl : Blk (wr.alloc (.cells #[vu x.n, .int .i64 x.s, sv x.d] 45)) (wr.heap.size) 45 #[vu x.n, .int .i64 x.s, sv x.d] := Blk.newAt (by simp) _ _
              rw [Addr.add_lit, Nat.zero_add, hbl.cell, List.getElem?_toArray]
              exact hj
            have h1c : ∀ u ∈ cc x, u.oneCell' = true := by
              intro u hu; simp [cc] at hu; rcases hu with rfl | rfl | rfl <;> rfl
            have HBW : Hid (Below w.heap.size w (wr.alloc (.cells #[vu x.n, .int .i64 x.s, sv x.d] 45))) := Lib.hid (HB.out.trans ((ba (Below.refl _ _) _).mono HB.out.size))
            have CW : Hid (Blk (wr.alloc (.cells #[vu x.n, .int .i64 x.s, sv x.d] 45)) w.heap.size 34 #[.int .i64 wI, .int .u64 fI, .int .u64 lI, sv T]) := Lib.hid (HC.out.below (ba (Below.refl _ _) _))
            have hbs : w.heap.size + 1 ≤ ((wr.alloc (.cells #[vu x.n, .int .i64 x.s, sv x.d] 45))).heap.size := CW.out.lt
            go_wp2_with (at_builtin; refine wpList_append_own _ rfl _ _ 22 rfl (w.heap.size + 1) 45 ti _ 3 32 Try.underlying22 hi hz0 hz1 hz2 rfl (by decide) _ _ _ rfl hown ⟨wr.heap.size, 0, none⟩ 1 1 (cc x) rfl rfl hnews h1c (by unfold maxLen; omega) (by omega) hbs ?_; intro v3 w3 hown3 hgrow3 _)
            exact ⟨⟨k + 1, by omega, by go_num, Lib.hid (CW.out.grown hgrow3 (fun e => by have := (no_lt hown e.symm).1; omega)), Lib.hid (no_snoc HST.out hown3), Lib.hid (HBW.out.grown hgrow3 (by omega) (fun q e => by have := (no_lt hown e).1; omega))⟩, by simp [intOf]; omega⟩
        · obtain rfl : K = k := by omega
          have hlti : ¬ ((a : Int) + (K : Int) ≤ (a : Int) + (K : Int) - 1) := by omega
          go_wp2_with fail
          go_loopw [7, 58] (fun ov iv wr => ∃ k : Nat, k ≤ n ∧ iv = .int .i64 k ∧ Hid (Blk wr w.heap.size 34 #[.int .i64 wI, .int .u64 fI, .int .u64 lI, sv T]) ∧ Hid (NO wr (w.heap.size + 1) ov (P3 k).length (P3 k)) ∧ Hid (Below w.heap.size w wr)) (fun _ i _ => n - (intOf i).toNat)
          case atStart => exact ⟨0, Nat.zero_le _, rfl, HC, Lib.hid (by rw [← HP1.out.2.2.1]; exact HO.out), HB⟩
          case round =>
            clear HC HO HB
            obtain ⟨k, hk, rfl, HC, HO, HB⟩ := hrel
            by_cases hlt : k < n
            · obtain ⟨g, off, rfl, c0, c1, c2⟩ := (HA.out.later HB.out) k (by rw [HL.out]; exact hlt)
              obtain ⟨hst, hpl⟩ := HS3.out k hlt
              have i0 : (0 : Int) ≤ (k : Int) := by omega
              have i1 : (k : Int) < (n : Int) := by omega
              generalize L.getD k default = x at *
              by_cases hx : a + K ≤ x.n
              · rw [if_pos hx] at hst
                have HST := Lib.hid hst
                have hxi : (a : Int) + (K : Int) - 1 < (x.n : Int) := by omega
                have hown : NO ((wr.alloc (.cells #[vu x.n, .int .i64 x.s, sv x.d] 45)).alloc (.cells #[vu x.n, .int .i64 x.s, sv x.d] 45)) (w.heap.size + 1) u7 (P3 k).length (P3 k) := no_later HO.out (ba (ba (Below.refl _ _) _) _)
                have hnews : ∀ (j : Nat) (u : Value), (cc x)[j]? = some u → (((wr.alloc (.cells #[vu x.n, .int .i64 x.s, sv x.d] 45)).alloc (.cells #[vu x.n, .int .i64 x.s, sv x.d] 45))).cell? ((⟨wr.heap.size + 1, 0, none⟩ : Addr).add j) = some u := fun j u hj => by
                  have hbl : Blk ((wr.alloc (.cells #[vu x.n, .int .i64 x.s, sv x.d] 45)).alloc (.cells #[vu x.n, .int .i64 x.s, sv x.d] 45)) (wr.heap.size + 1) 45 #[vu x.n, .int .i64 x.s, sv x.d] := Blk.newAt (by simp) _ _
                  rw [Addr.add_lit, Nat.zero_add, hbl.cell, List.getElem?_toArray]
                  exact hj
                have h1c : ∀ u ∈ cc x, u.oneCell' = true := by
                  intro u hu; simp [cc] at hu; rcases hu with rfl | rfl | rfl <;> rfl
                have HBW : Hid (Below w.heap.size w ((wr.alloc (.cells #[vu x.n, .int .i64 x.s, sv x.d] 45)).alloc (.cells #[vu x.n, .int .i64 x.s, sv x.d] 45))) := Lib.hid (HB.out.trans ((ba (ba (Below.refl _ _) _) _).mono HB.out.size))
                have CW : Hid (Blk ((wr.alloc (.cells #[vu x.n, .int .i64 x.s, sv x.d] 45)).alloc (.cells #[vu x.n, .int .i64 x.s, sv x.d] 45)) w.heap.size 34 #[.int .i64 wI, .int .u64 fI, .int .u64 lI, sv T]) := Lib.hid (HC.out.below (ba (ba (Below.refl _ _) _) _))
                have hbs : w.heap.size + 1 ≤ (((wr.alloc (.cells #[vu x.n, .int .i64 x.s, sv x.d] 45)).alloc (.cells #[vu x.n, .int .i64 x.s, sv x.d] 45))).heap.size := CW.out.lt
                clear hst
                go_wp2_with (at_builtin; refine wpList_append_own _ rfl _ _ 22 rfl (w.heap.size + 1) 45 ti _ 3 32 Try.underlying22 hi hz0 hz1 hz2 rfl (by decide) _ _ _ rfl hown ⟨wr.heap.size + 1, 0, none⟩ 1 1 (cc x) rfl rfl hnews h1c (by unfold maxLen; omega) (by omega) hbs ?_; intro v3 w3 hown3 hgrow3 _)
                exact ⟨⟨k + 1, by omega, by go_num, Lib.hid (CW.out.grown hgrow3 (fun e => by have := (no_lt hown e.symm).1; omega)), Lib.hid (no_snoc HST.out hown3), Lib.hid (HBW.out.grown hgrow3 (by omega) (fun q e => by have := (no_lt hown e).1; omega))⟩, by simp [intOf]; omega⟩
              · rw [if_neg hx, List.append_nil] at hst
                have hxi : ¬ ((a : Int) + (K : Int) - 1 < (x.n : Int)) := by omega
                have CW : Hid (Blk (wr.alloc (.cells #[vu x.n, .int .i64 x.s, sv x.d] 45)) w.heap.size 34 #[.int .i64 wI, .int .u64 fI, .int .u64 lI, sv T]) := Lib.hid (HC.out.alloc _)
                have OW : Hid (NO (wr.alloc (.cells #[vu x.n, .int .i64 x.s, sv x.d] 45)) (w.heap.size + 1) u7 (P3 (k + 1)).length (P3 (k + 1))) := Lib.hid (by rw [hst]; exact no_later HO.out (ba (Below.refl _ _) _))
                have BW : Hid (Below w.heap.size w (wr.alloc (.cells #[vu x.n, .int .i64 x.s, sv x.d] 45))) := Lib.hid (ba HB.out _)
                clear hst
                go_wp2
                exact ⟨⟨k + 1, by omega, by go_num, CW, OW, BW⟩, by simp [intOf]; omega⟩
            · obtain rfl : n = k := by omega
              obtain ⟨B, d, rfl, hf⟩ := own_form HO.out
              have HR := Lib.hid (no_read HO.out)
              have HZ := Lib.hid HP1.out.2.2.2
              have HZ9 : Hid (∀ B d, Ending.returned (.slice B (P3 n).length d) = .returned (.slice B Z.length d)) := Lib.hid fun B d => by rw [HZ.out]
              go_wp2
              go_ret
              exact ⟨B, d, HZ9.out B d, by rw [← HZ.out]; exact HR.out, HB.out⟩
end Go.Proofs.Ytbecambkjmheiaa
/- The reference's Right. -/
namespace Go.Proofs.Ytbecambkjmheiaa
open Go.RowKit

set_option maxRecDepth 100000 in
set_option maxHeartbeats 8000000 in
theorem nrright_any (A : Option Addr) (n c : Nat) (L : List CL) (w : World) (hA : CR w A L) (hl : L.length = n) (hn : n ≤ 65536) :
    Calls Try.prog 42 #[.slice A n c] w fun e w' => e = .returned (.bool (decide (CRt L))) ∧ Below w.heap.size w w' := by
  have HA := Lib.hid hA
  have HV : Hid (∀ j, j < n → ¬ COk (L.getD j default) → decide (CRt L) = false) := Lib.hid fun j hj h => decide_eq_false fun hr => h (hr.2.1 j (by omega))
  have HK : Hid (∀ j, j + 1 < n → ¬ (L.getD j default).n < (L.getD (j + 1) default).n → decide (CRt L) = false) := Lib.hid fun j hj h => decide_eq_false fun hr => h (by have := hr.2.2 (j + 1) (by omega) (by omega); rwa [Nat.add_sub_cancel] at this)
  have HY : Hid ((∀ j, j < n → COk (L.getD j default)) → (∀ j, j < n → 0 < j → (L.getD (j - 1) default).n < (L.getD j default).n) → decide (CRt L) = decide ((n : Int) ≤ 64)) := Lib.hid fun a b => by
    by_cases h : n ≤ 64
    · rw [decide_eq_true (show (n : Int) ≤ 64 by omega)]
      exact decide_eq_true ⟨by omega, fun j hj => a j (by omega), fun j hj => b j (by omega)⟩
    · rw [decide_eq_false (show ¬ (n : Int) ≤ 64 by omega)]
      exact decide_eq_false fun k => h (by have := k.1; omega)
  have HL := Lib.hid hl
  generalize decide (CRt L) = R at HV HK HY ⊢
  clear hA hl
  go_enter Try.func42, Try.ntmps42
  go_wp2_with fail
  go_loopw [7] (fun iv wr => ∃ k : Nat, k ≤ n ∧ iv = .int .i64 k ∧ Hid (∀ j, j < k → COk (L.getD j default)) ∧ Hid (∀ j, j < k → 0 < j → (L.getD (j - 1) default).n < (L.getD j default).n) ∧ Below w.heap.size w wr) (fun i _ => n - (intOf i).toNat)
  case atStart => exact ⟨0, Nat.zero_le _, rfl, Lib.hid (fun j hj => by omega), Lib.hid (fun j hj => by omega), Below.refl _ _⟩
  case round =>
    obtain ⟨k, hk, rfl, HJ, HJ2, hb⟩ := hrel
    by_cases hlt : k < n
    · obtain ⟨g, off, rfl, c0, c1, c2⟩ := (HA.out.later hb) k (by rw [HL.out]; exact hlt)
      have HV1 := Lib.hid (HV.out k hlt)
      have i0 : (0 : Int) ≤ (k : Int) := by omega
      have i1 : (k : Int) < (n : Int) := by omega
      have HJ1 : Hid (COk (L.getD k default) → ∀ j, j < k + 1 → COk (L.getD j default)) := Lib.hid fun h j hj => by
        by_cases e : j = k
        · rw [e]; exact h
        · exact HJ.out j (by omega)
      rcases Nat.eq_zero_or_pos k with rfl | hk0
      · have HJ3 : Hid (∀ j, j < 0 + 1 → 0 < j → (L.getD (j - 1) default).n < (L.getD j default).n) := Lib.hid fun j hj h0 => by omega
        generalize L.getD 0 default = x at *
        simp only [Nat.zero_mul, Nat.add_zero] at c0 c1 c2
        obtain ⟨xn, xs, xd⟩ := x
        have hd := size_mk xd
        simp only at c0 c1 c2 HV1 HJ1
        have c0' : wr.cell? ⟨g, off, none⟩ = some (.int .u64 (xn : Int)) := c0
        clear c0
        by_cases h1 : xn < 576460752303423488
        · have d9 : decide ((0 : Int) < 0) = false := by simp
          have h1' : ¬ (576460752303423488 : Int) ≤ (xn : Int) := by omega
          have h1d : decide ((576460752303423488 : Int) ≤ (xn : Int)) = false := decide_eq_false h1'
          by_cases h2 : xs = 1
          · subst h2
            by_cases h3 : xd.length = 32
            · have HX : Hid (COk ⟨xn, 1, xd⟩) := Lib.hid ⟨h1, Or.inl ⟨rfl, h3⟩⟩
              have h4 : (xd.length : Int) = 32 := by omega
              clear h3
              generalize (xn : Int) = X at *
              go_wp2_with fail
              go_quiet (fail)
              go_wp2
              exact ⟨⟨1, by omega, by go_num, Lib.hid (HJ1.out HX.out), HJ3, below_drewN (ba hb _) _⟩, by simp [intOf]; omega⟩
            · have HR := Lib.hid (HV1.out (fun h => by rcases h.2 with h | h; exact h3 h.2; exact absurd h.1 (show ¬ (1 : Int) = 2 by omega)))
              have h4 : ¬ (xd.length : Int) = 32 := by omega
              clear h3
              generalize (xn : Int) = X at *
              go_wp2_with fail
              go_quiet (fail)
              go_wp2
              go_ret
              rw [HR.out]
              exact ⟨rfl, below_drewN (ba hb _) _⟩
          · by_cases h3 : xs = 2
            · subst h3
              cases xd with
              | nil =>
                have HX : Hid (COk ⟨xn, 2, []⟩) := Lib.hid ⟨h1, Or.inr ⟨rfl, rfl⟩⟩
                generalize (xn : Int) = X at *
                go_wp2_with fail
                go_quiet (fail)
                go_wp2
                exact ⟨⟨1, by omega, by go_num, Lib.hid (HJ1.out HX.out), HJ3, below_drewN (ba hb _) _⟩, by simp [intOf]; omega⟩
              | cons a t =>
                have HR := Lib.hid (HV1.out (fun h => by rcases h.2 with h | h; exact absurd h.1 (show ¬ (2 : Int) = 1 by omega); cases h.2))
                generalize (xn : Int) = X at *
                go_wp2_with fail
                go_quiet (fail)
                go_wp2
                go_ret
                rw [HR.out]
                exact ⟨rfl, below_drewN (ba hb _) _⟩
            · have HR := Lib.hid (HV1.out (fun h => by rcases h.2 with h | h; exact h2 h.1; exact h3 h.1))
              have h2d : decide (xs = 1) = false := decide_eq_false h2
              have h3d : decide (xs = 2) = false := decide_eq_false h3
              have h2e : (xs == 1) = false := by simpa using h2
              have h3e : (xs == 2) = false := by simpa using h3
              have h2f : (xs != 1) = true := by simp [bne, h2e]
              have h3f : (xs != 2) = true := by simp [bne, h3e]
              generalize (xn : Int) = X at *
              go_wp2_with fail
              go_quiet (fail)
              go_wp2
              go_ret
              rw [HR.out]
              exact ⟨rfl, below_drewN (ba hb _) _⟩
        · have HR := Lib.hid (HV1.out (fun h => h1 h.1))
          have h1' : (576460752303423488 : Int) ≤ (xn : Int) := by omega
          have h1d : decide ((576460752303423488 : Int) ≤ (xn : Int)) = true := by simpa using h1'
          generalize (xn : Int) = X at *
          go_wp2_with fail
          go_quiet (fail)
          go_wp2
          go_ret
          rw [HR.out]
          exact ⟨rfl, below_drewN (ba hb _) _⟩
      · obtain ⟨m, rfl⟩ : ∃ m, k = m + 1 := ⟨k - 1, by omega⟩
        obtain ⟨g', off', e, d0, d1, d2⟩ := (HA.out.later hb) m (by rw [HL.out]; omega)
        obtain ⟨rfl, rfl⟩ : g = g' ∧ off = off' := by injection e with e; injection e with e1 e2; exact ⟨e1, e2⟩
        have HK1 := Lib.hid (HK.out m (by omega))
        have HJ3 : Hid ((L.getD m default).n < (L.getD (m + 1) default).n → ∀ j, j < m + 1 + 1 → 0 < j → (L.getD (j - 1) default).n < (L.getD j default).n) := Lib.hid fun h j hj h0 => by
          by_cases e : j = m + 1
          · rw [e]; exact h
          · exact HJ2.out j (by omega) h0
        generalize L.getD (m + 1) default = x at *
        generalize L.getD m default = y at *
        have e0 : IntKind.i64.wrap (((m + 1 : Nat) : Int) - 1) = (m : Int) := by rw [IntKind.wrap_i64]; omega
        have e1 : (0 : Int) < ((m + 1 : Nat) : Int) := by omega
        have e5 : IntKind.i64.wrap ((m : Int) + 1 - 1) = (m : Int) := by rw [IntKind.wrap_i64]; omega
        have e6 : (0 : Int) < (m : Int) + 1 := by omega
        have e8 : decide ((0 : Int) < (m : Int) + 1) = true := decide_eq_true e6
        have e7 : IntKind.i64.wrap (m : Int) = (m : Int) := by rw [IntKind.wrap_i64]; omega
        have e2 : (0 : Int) ≤ (m : Int) := by omega
        have e3 : (m : Int) < (n : Int) := by omega
        obtain ⟨xn, xs, xd⟩ := x
        have hd := size_mk xd
        simp only at c0 c1 c2 HV1 HJ1 HJ3 HK1
        have c0' : wr.cell? ⟨g, off + (m + 1) * 3, none⟩ = some (.int .u64 (xn : Int)) := c0
        have d0' : wr.cell? ⟨g, off + m * 3, none⟩ = some (.int .u64 (y.n : Int)) := d0
        clear d0
        clear c0
        by_cases h1 : xn < 576460752303423488
        · by_cases hy : y.n < xn
          · have hy1 : ¬ ((xn : Int) ≤ (y.n : Int)) := by omega
            have hy2 : ¬ (xn ≤ y.n) := by omega
            have hyd : decide ((xn : Int) ≤ (y.n : Int)) = false := decide_eq_false hy1
            have h1' : ¬ (576460752303423488 : Int) ≤ (xn : Int) := by omega
            have h1d : decide ((576460752303423488 : Int) ≤ (xn : Int)) = false := decide_eq_false h1'
            by_cases h2 : xs = 1
            · subst h2
              by_cases h3 : xd.length = 32
              · have HX : Hid (COk ⟨xn, 1, xd⟩) := Lib.hid ⟨h1, Or.inl ⟨rfl, h3⟩⟩
                have h4 : (xd.length : Int) = 32 := by omega
                clear h3
                generalize (xn : Int) = X at *
                generalize (y.n : Int) = Y at *
                go_wp2_with fail
                have b0 : (wr.alloc (.cells #[.int .u64 X, .int .i64 1, sv xd] 45)).cell? ⟨g, off + m * 3, none⟩ = some (.int .u64 Y) := cell_later (ba (Below.refl _ _) _) d0'
                go_quiet (fail)
                go_wp2
                exact ⟨⟨m + 1 + 1, by omega, by go_num, Lib.hid (HJ1.out HX.out), Lib.hid (HJ3.out hy), below_drewN (ba hb _) _⟩, by simp [intOf]; omega⟩
              · have HR := Lib.hid (HV1.out (fun h => by rcases h.2 with h | h; exact h3 h.2; exact absurd h.1 (show ¬ (1 : Int) = 2 by omega)))
                have h4 : ¬ (xd.length : Int) = 32 := by omega
                clear h3
                generalize (xn : Int) = X at *
                generalize (y.n : Int) = Y at *
                go_wp2_with fail
                have b0 : (wr.alloc (.cells #[.int .u64 X, .int .i64 1, sv xd] 45)).cell? ⟨g, off + m * 3, none⟩ = some (.int .u64 Y) := cell_later (ba (Below.refl _ _) _) d0'
                go_quiet (fail)
                go_wp2
                go_ret
                rw [HR.out]
                exact ⟨rfl, below_drewN (ba hb _) _⟩
            · by_cases h3 : xs = 2
              · subst h3
                cases xd with
                | nil =>
                  have HX : Hid (COk ⟨xn, 2, []⟩) := Lib.hid ⟨h1, Or.inr ⟨rfl, rfl⟩⟩
                  generalize (xn : Int) = X at *
                  generalize (y.n : Int) = Y at *
                  go_wp2_with fail
                  have b0 : (wr.alloc (.cells #[.int .u64 X, .int .i64 2, sv []] 45)).cell? ⟨g, off + m * 3, none⟩ = some (.int .u64 Y) := cell_later (ba (Below.refl _ _) _) d0'
                  go_quiet (fail)
                  go_wp2
                  exact ⟨⟨m + 1 + 1, by omega, by go_num, Lib.hid (HJ1.out HX.out), Lib.hid (HJ3.out hy), below_drewN (ba hb _) _⟩, by simp [intOf]; omega⟩
                | cons a t =>
                  have HR := Lib.hid (HV1.out (fun h => by rcases h.2 with h | h; exact absurd h.1 (show ¬ (2 : Int) = 1 by omega); cases h.2))
                  generalize (xn : Int) = X at *
                  generalize (y.n : Int) = Y at *
                  go_wp2_with fail
                  have b0 : (wr.alloc (.cells #[.int .u64 X, .int .i64 2, sv (a :: t)] 45)).cell? ⟨g, off + m * 3, none⟩ = some (.int .u64 Y) := cell_later (ba (Below.refl _ _) _) d0'
                  go_quiet (fail)
                  go_wp2
                  go_ret
                  rw [HR.out]
                  exact ⟨rfl, below_drewN (ba hb _) _⟩
              · have HR := Lib.hid (HV1.out (fun h => by rcases h.2 with h | h; exact h2 h.1; exact h3 h.1))
                have h2d : decide (xs = 1) = false := decide_eq_false h2
                have h3d : decide (xs = 2) = false := decide_eq_false h3
                have h2e : (xs == 1) = false := by simpa using h2
                have h3e : (xs == 2) = false := by simpa using h3
                have h2f : (xs != 1) = true := by simp [bne, h2e]
                have h3f : (xs != 2) = true := by simp [bne, h3e]
                generalize (xn : Int) = X at *
                generalize (y.n : Int) = Y at *
                go_wp2_with fail
                have b0 : (wr.alloc (.cells #[.int .u64 X, .int .i64 xs, sv xd] 45)).cell? ⟨g, off + m * 3, none⟩ = some (.int .u64 Y) := cell_later (ba (Below.refl _ _) _) d0'
                go_quiet (fail)
                go_wp2
                go_ret
                rw [HR.out]
                exact ⟨rfl, below_drewN (ba hb _) _⟩
          · have HR := Lib.hid (HK1.out hy)
            have h1' : ¬ (576460752303423488 : Int) ≤ (xn : Int) := by omega
            have hy1 : ((xn : Int) ≤ (y.n : Int)) := by omega
            have hyd : decide ((xn : Int) ≤ (y.n : Int)) = true := decide_eq_true hy1
            have h1d : decide ((576460752303423488 : Int) ≤ (xn : Int)) = false := decide_eq_false h1'
            generalize (xn : Int) = X at *
            generalize (y.n : Int) = Y at *
            go_wp2_with fail
            have b0 : (wr.alloc (.cells #[.int .u64 X, .int .i64 xs, sv xd] 45)).cell? ⟨g, off + m * 3, none⟩ = some (.int .u64 Y) := cell_later (ba (Below.refl _ _) _) d0'
            go_quiet (fail)
            go_wp2
            go_ret
            rw [HR.out]
            exact ⟨rfl, below_drewN (ba hb _) _⟩
        · have HR := Lib.hid (HV1.out (fun h => h1 h.1))
          have h1' : (576460752303423488 : Int) ≤ (xn : Int) := by omega
          have h1d : decide ((576460752303423488 : Int) ≤ (xn : Int)) = true := by simpa using h1'
          generalize (xn : Int) = X at *
          generalize (y.n : Int) = Y at *
          go_wp2_with fail
          have b0 : (wr.alloc (.cells #[.int .u64 X, .int .i64 xs, sv xd] 45)).cell? ⟨g, off + m * 3, none⟩ = some (.int .u64 Y) := cell_later (ba (Below.refl _ _) _) d0'
          go_quiet (fail)
          go_wp2
          go_ret
          rw [HR.out]
          exact ⟨rfl, below_drewN (ba hb _) _⟩
    · obtain rfl : k = n := by omega
      have HR := Lib.hid (HY.out HJ.out HJ2.out)
      go_wp2
      go_ret
      rw [HR.out]
      exact ⟨rfl, hb⟩
end Go.Proofs.Ytbecambkjmheiaa
/- The reference's Why. -/
namespace Go.Proofs.Ytbecambkjmheiaa
open Go.RowKit

set_option maxRecDepth 100000 in
set_option maxHeartbeats 4000000 in
theorem nrwhy_any (A : Option Addr) (n c f m : Nat) (L : List CL) (w : World) (hA : CR w A L) (hl : L.length = n) (hn : n ≤ 65536) (hf : f < 18446744073709551616) (hm : m < 18446744073709551616) :
    Calls Try.prog 21 #[.slice A n c, .agg #[vu f, vu m]] w fun e w' => e = .returned (.int .i64 (cWhy L f m)) ∧ Below w.heap.size w w' := by
  have HR := Lib.hid (fun W (hb : Below w.heap.size w W) => nrright_any A n c L W (hA.later hb) hl hn)
  by_cases h1 : CRt L
  · rw [decide_eq_true h1] at HR
    by_cases h2 : m = 0 ∨ 224 < m
    · have e : cWhy L f m = 4 := by rw [cWhy, if_neg (fun h => h h1), if_pos h2]
      rw [e]
      clear e hA
      rcases Nat.eq_zero_or_pos m with h3 | h3
      · subst h3
        go_enter Try.func21, Try.ntmps21
        go_wp2_with fail
        refine (HR.out _ (ba (Below.refl _ _) _)).mono ?_
        rintro e w1 ⟨rfl, hb1⟩
        obtain ⟨r1, s1⟩ := At.later (v := vu 0) (b := w.heap.size) (o := 1) ⟨by go_simp, by go_simp⟩ hb1
        have HB := Lib.hid (bt (ba (Below.refl w.heap.size w) _) hb1)
        clear hb1
        go_wp2
        go_ret
        exact ⟨rfl, HB.out⟩
      · have h5 : decide ((m : Int) = 0) = false := by simp only [decide_eq_false_iff_not]; omega
        have h6 : (224 : Int) < (m : Int) := by omega
        have h7 : ((m : Int) == 0) = false := by simp; omega
        clear h2 h3
        go_enter Try.func21, Try.ntmps21
        go_wp2_with fail
        refine (HR.out _ (ba (Below.refl _ _) _)).mono ?_
        rintro e w1 ⟨rfl, hb1⟩
        obtain ⟨r1, s1⟩ := At.later (v := vu m) (b := w.heap.size) (o := 1) ⟨by go_simp, by go_simp⟩ hb1
        have HB := Lib.hid (bt (ba (Below.refl w.heap.size w) _) hb1)
        clear hb1
        go_wp2
        go_ret
        exact ⟨rfl, HB.out⟩
    · have HC : Hid (∀ W, Calls Try.prog 43 #[.agg #[vu f, vu m]] W fun e w' => e = .returned (.int .i64 (cWhy L f m)) ∧ Below W.heap.size W w') := Lib.hid fun W => by
        have e : cWhy L f m = if f + m ≤ 18446744073709551616 then 0 else 2 := by rw [cWhy, if_neg (fun h => h h1), if_neg h2]
        rw [e]
        split
        · exact rcheck_ok (f : Int) (m : Int) W (by omega) (by omega) (by omega)
        · exact rcheck_bad (f : Int) (m : Int) 2 W (by omega) (by omega) (by omega) (by unfold Bad; omega)
      generalize cWhy L f m = E at *
      have h5 : decide ((m : Int) = 0) = false := by simp only [decide_eq_false_iff_not]; omega
      have h6 : ¬ ((224 : Int) < (m : Int)) := by omega
      have h7 : ((m : Int) == 0) = false := by simp; omega
      have h8 : ¬ (224 < m) := by omega
      have h9 : ¬ (m = 0) := by omega
      clear h2 hA
      go_enter Try.func21, Try.ntmps21
      go_wp2_with fail
      refine (HR.out _ (ba (Below.refl _ _) _)).mono ?_
      rintro e w1 ⟨rfl, hb1⟩
      obtain ⟨r0, s0⟩ := At.later (v := vu f) (b := w.heap.size) (o := 0) ⟨by go_simp, by go_simp⟩ hb1
      obtain ⟨r1, s1⟩ := At.later (v := vu m) (b := w.heap.size) (o := 1) ⟨by go_simp, by go_simp⟩ hb1
      have HB := Lib.hid (bt (ba (Below.refl w.heap.size w) _) hb1)
      clear hb1
      go_wp2_with fail
      refine (HC.out _).mono ?_
      rintro e w2 ⟨rfl, hb2⟩
      have HB2 := Lib.hid (bt HB.out hb2)
      clear hb2
      go_wp2
      go_ret
      exact ⟨rfl, HB2.out⟩
  · have e : cWhy L f m = 1 := by rw [cWhy, if_pos h1]
    rw [e]
    rw [decide_eq_false h1] at HR
    clear e hA h1
    go_enter Try.func21, Try.ntmps21
    go_wp2_with fail
    refine (HR.out _ (ba (Below.refl _ _) _)).mono ?_
    rintro e w1 ⟨rfl, hb1⟩
    have HB := Lib.hid (bt (ba (Below.refl w.heap.size w) _) hb1)
    clear hb1
    go_wp2
    go_ret
    exact ⟨rfl, HB.out⟩
end Go.Proofs.Ytbecambkjmheiaa
