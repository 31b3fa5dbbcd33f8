/- The contract of the reference's Set. -/
import Derived.Test.YthknelpcdoebiaaZRWord
import Derived.Test.YthknelpcdoebiaaZOwn
namespace Go.Proofs.Ythknelpcdoebiaa
open Go.RowKit

theorem own_zm {W : World} {base : Nat} {A : Option Addr} {n c F : Nat} {T : List Nat} (h : W.ownsRow base 23 1 (.slice A n c) n (T.map zq)) (hl : T.length = n) (hn : n ≤ 70) (ht : ∀ x ∈ T, x < Z64) (hf : F < Z64) : ZM W A n c T F := by
  obtain ⟨A', c', e, hh⟩ := own_form h
  injection e with e1 e2 e3
  subst e1
  subst e3
  refine ⟨own_ZRow h hl, hl, ?_, hn, ?_, ht, hf⟩
  · rcases hh with ⟨_, _, h3⟩ | ⟨g, rfl, _⟩
    · exact fun _ => h3
    · exact fun e => by cases e
  · rcases hh with ⟨_, h2, _⟩ | ⟨g, rfl, h2, _⟩
    · omega
    · exact h2
theorem own_far {W : World} {base : Nat} {e : TypeId} {size : Nat} {v : Value} {n : Nat} {xs : List Value} (h : W.ownsRow base e size v n xs) {p : Addr} (hp : p.block < base) (u : Value) : (W.setCell p u).ownsRow base e size v n xs := by
  obtain ⟨h1, h2⟩ := h
  refine ⟨h1, ?_⟩
  rcases h2 with h2 | ⟨g, cap, cur, hv, hg, hh, r⟩
  · exact Or.inl h2
  · exact Or.inr ⟨g, cap, cur, hv, hg, (Below.heap_setCell W p u g (by omega)).trans hh, r⟩
theorem ztake_succ {T : List Nat} {j : Nat} (h : j < T.length) : (T.take (j + 1)).map zq = (T.take j).map zq ++ [zq (T.getD j 0)] := by
  rw [List.take_succ_eq_append_getElem h, List.map_append]
  congr 1
  simp [List.getD, h]

set_option maxRecDepth 100000 in
set_option maxHeartbeats 4000000 in
theorem rset_walk (k : Int) (A : Option Addr) (n c F i : Nat) (b : Bool) (T : List Nat) (w : World) (hn : n ≤ 64)
    (HT : Hid (T.length = n ∧ ∀ x ∈ T, x < Z64))
    (HW : Hid (∀ (j : Nat) W, j < n → Below w.heap.size w W → Calls Try.prog 34 #[zbv k A n c F, .int .i64 (j : Int), .int .i64 (i : Int), .bool b] W fun e w' => e = .returned (zq (T.getD j 0)) ∧ Below W.heap.size W w'))
    (HFi : Hid (∀ (j : Nat) W, Calls Try.prog 28 #[zq (T.getD j 0)] W fun e w' => e = .returned (.bool (T.getD j 0 == Zfull)) ∧ W = w')) :
    Calls Try.prog 18 #[zbv k A n c F, .int .i64 (i : Int), .bool b] w fun e w' => ∃ A' c', e = .returned (zbv k A' n c' (zfl T)) ∧ ZM w' A' n c' T (zfl T) ∧ Below w.heap.size w w' := by
  obtain ⟨ti, hti, hz0, hz1, hz2⟩ := info_parts infoZ
  have HB : Hid (w.heap.size + 3 ≤ ((zbox w k A n c F).alloc (.cells #[.int .i64 0, .slice none 0 0, .int .u64 0] 25) |>.alloc (.cells #[.int .i64 k, .slice none 0 0, .int .u64 0] 25)).heap.size ∧ Below w.heap.size w ((zbox w k A n c F).alloc (.cells #[.int .i64 0, .slice none 0 0, .int .u64 0] 25) |>.alloc (.cells #[.int .i64 k, .slice none 0 0, .int .u64 0] 25))) := Lib.hid ⟨by simp, ba (ba (zbox_below w k A n c F) _) _⟩
  have HK : Hid (Blk ((zbox w k A n c F).alloc (.cells #[.int .i64 0, .slice none 0 0, .int .u64 0] 25) |>.alloc (.cells #[.int .i64 k, .slice none 0 0, .int .u64 0] 25)) w.heap.size 25 (zcs k A n c F)) := Lib.hid (((zbox_blk w k A n c F).alloc _).alloc _)
  have HR : Hid (Blk ((zbox w k A n c F).alloc (.cells #[.int .i64 0, .slice none 0 0, .int .u64 0] 25) |>.alloc (.cells #[.int .i64 k, .slice none 0 0, .int .u64 0] 25)) (w.heap.size + 1) 25 #[.int .i64 0, .slice none 0 0, .int .u64 0]) := Lib.hid ((Blk.newAt (by simp) _ _).alloc _)
  have HO : Hid (Blk ((zbox w k A n c F).alloc (.cells #[.int .i64 0, .slice none 0 0, .int .u64 0] 25) |>.alloc (.cells #[.int .i64 k, .slice none 0 0, .int .u64 0] 25)) (w.heap.size + 1 + 1) 25 (zcs k none 0 0 0)) := Lib.hid (Blk.newAt (by simp) _ _)
  go_enter Try.func18, Try.ntmps18
  go_wp2_with fail
  go_loopw [8, 17] (fun tv jv wr => ∃ (j top f c' : Nat) (A' : Option Addr), j ≤ n ∧ jv = .int .i64 (j : Int) ∧ tv = zq top ∧ Hid (top = 2 ^ j % Z64) ∧ Hid (f = zmk j (fun v => T.getD v 0 == Zfull)) ∧ Hid (Blk wr (w.heap.size + 1 + 1) 25 (zcs k A' j c' f)) ∧ Hid (wr.ownsRow (w.heap.size + 3) 23 1 (.slice A' j c') j ((T.take j).map zq)) ∧ Hid (Blk wr w.heap.size 25 (zcs k A n c F)) ∧ Hid (Blk wr (w.heap.size + 1) 25 #[.int .i64 0, .slice none 0 0, .int .u64 0]) ∧ Hid (w.heap.size + 3 ≤ wr.heap.size ∧ Below w.heap.size w wr)) (fun _ jv _ => n - (intOf jv).toNat)
  case atStart => exact ⟨0, 1, 0, 0, none, Nat.zero_le _, rfl, rfl, Lib.hid (by decide), Lib.hid rfl, HO, Lib.hid (World.ownsRow_nil _ _ _ _), HK, HR, HB⟩
  case round =>
    clear HB HK HR HO
    obtain ⟨j, top, f, c', A', hj, rfl, rfl, HTop, HFf, HO, HOW, HK, HR, HB⟩ := hrel
    obtain ⟨⟨q0, q1, q2⟩, _⟩ := zcells HK.out
    obtain ⟨⟨o0, o1, o2⟩, _⟩ := zcells HO.out
    by_cases hlt : j < n
    · have hli : (j : Int) < (n : Int) := by omega
      have hj64 : j < 64 := by omega
      have HX := Lib.hid (fun W (hb : Below w.heap.size w W) => HW.out j W hlt hb)
      have HFj := Lib.hid (HFi.out j)
      have HZ := Lib.hid (zmk_last j (fun v => T.getD v 0 == Zfull))
      have HTS := Lib.hid (ztake_succ (T := T) (j := j) (by rw [HT.out.1]; exact hlt))
      have hp2 : 2 ^ j < Z64 := by rw [z64]; exact Nat.pow_lt_pow_right (by omega) hj64
      have ht2 : top = 2 ^ j := by rw [HTop.out]; exact Nat.mod_eq_of_lt hp2
      have hf2 : f < 2 ^ j := by rw [HFf.out]; exact zmk_lt _ _
      obtain ⟨top2, HTop2⟩ : ∃ top2, top2 = 2 ^ (j + 1) % Z64 := ⟨_, rfl⟩
      have hwt : IntKind.u64.wrap (2 * (top : Int)) = (top2 : Int) := by
        rw [IntKind.wrap_u64, HTop2, Nat.pow_succ, ← ht2]
        have : Z64 = 18446744073709551616 := rfl
        rw [this]
        omega
      have hsum : top + f < 18446744073709551616 ∧ top < 18446744073709551616 := by
        have h1 : f + 2 ^ j < 2 ^ (j + 1) := by rw [Nat.pow_succ]; omega
        have h2 : 2 ^ (j + 1) ≤ 2 ^ 64 := Nat.pow_le_pow_right (by omega) (by omega)
        rw [show (2 : Nat) ^ 64 = 18446744073709551616 by decide] at h2
        omega
      have HTp := Lib.hid HTop2
      have HT2 := Lib.hid ht2
      clear hp2 ht2 hf2 HTop2
      go_wp2_with fail
      refine (HX.out _ HB.out.2).mono ?_
      rintro e2 w2 ⟨rfl, hb2⟩
      have B2 : Hid (w.heap.size + 3 ≤ w2.heap.size ∧ Below w.heap.size w w2) := Lib.hid ⟨Nat.le_trans HB.out.1 hb2.size, bt HB.out.2 hb2⟩
      have K2 := Lib.hid (HK.out.below hb2)
      have R2 := Lib.hid (HR.out.below hb2)
      have O2 := Lib.hid (HO.out.below hb2)
      have W2 := Lib.hid (own_later HOW.out hb2)
      clear hb2 q0 q1 q2 o0 o1 o2 HK HR HO HOW HB HX
      obtain ⟨⟨o0, o1, o2⟩, _⟩ := zcells O2.out
      generalize (T.getD j 0 == Zfull) = bf at HFj HZ
      generalize T.getD j 0 = x at HFj HTS ⊢
      have hownA := W2.out.alloc (.cells #[zq x] 23)
      have hnews := World.news_of_block (heap_alloc_new w2 (.cells #[zq x] 23))
      have K3 := Lib.hid (K2.out.alloc (.cells #[zq x] 23))
      have R3 := Lib.hid (R2.out.alloc (.cells #[zq x] 23))
      have O3 := Lib.hid (O2.out.alloc (.cells #[zq x] 23))
      have B3 := Lib.hid (ba B2.out.2 (.cells #[zq x] 23))
      go_wp2_with (at_builtin; refine wpList_append_own _ rfl _ _ 22 rfl (w.heap.size + 3) 23 ti _ 1 8 Try.underlying22 hti hz0 hz1 hz2 rfl (by decide) _ _ _ rfl hownA ⟨w2.heap.size, 0, none⟩ 1 1 [zq x] rfl rfl hnews (by simp [Value.oneCell']) (by unfold maxLen; omega) (by omega) (by have := B2.out.1; simp; omega) ?_; intro v4 w5 hown5 hgrow5 _; obtain ⟨g6, c6, rfl⟩ := ownsRow_succ hown5; have O5 := Lib.hid (Blk.grown O3.out hgrow5 (fun e => by have := (hownA.lt _ e.symm).1; omega)); obtain ⟨⟨o0, o1, o2⟩, p0, p1, p2⟩ := zcells O5.out)
      have hz5 := hgrow5.size
      simp only [World.size_alloc] at hz5
      have hz2 := B2.out.1
      have K5 := Lib.hid (Blk.grown K3.out hgrow5 (fun e => by have := (hownA.lt _ e.symm).1; omega))
      have R5 := Lib.hid (Blk.grown R3.out hgrow5 (fun e => by have := (hownA.lt _ e.symm).1; omega))
      have B5 := Lib.hid (B3.out.grown hgrow5 (by simp; omega) (fun k e => by have := (hownA.lt k e).1; omega))
      rw [← HTS.out] at hown5
      obtain ⟨g7, hg7, hb7, hrow⟩ := ZRowS.of_own hown5 (by omega) (by rw [List.length_take, HT.out.1]; omega)
      obtain rfl : g6 = g7 := by injection hg7 with e; injection e
      have G6 := Lib.hid hb7
      have O6 := Lib.hid (O5.out.set_ 1 (.slice (some ⟨g6, 0, none⟩) (j + 1) c6))
      have K6 := Lib.hid (K5.out.far (p := ⟨w.heap.size + 1 + 1, 1, none⟩) (by simp; omega) (.slice (some ⟨g6, 0, none⟩) (j + 1) c6))
      have R6 := Lib.hid (R5.out.far (p := ⟨w.heap.size + 1 + 1, 1, none⟩) (by simp) (.slice (some ⟨g6, 0, none⟩) (j + 1) c6))
      have W6 := Lib.hid (hrow.far (p := ⟨w.heap.size + 1 + 1, 1, none⟩) (by simp; omega) (.slice (some ⟨g6, 0, none⟩) (j + 1) c6))
      have B6 : Hid (w.heap.size + 3 ≤ (w5.setCell ⟨w.heap.size + 1 + 1, 1, none⟩ (.slice (some ⟨g6, 0, none⟩) (j + 1) c6)).heap.size ∧ Below w.heap.size w (w5.setCell ⟨w.heap.size + 1 + 1, 1, none⟩ (.slice (some ⟨g6, 0, none⟩) (j + 1) c6))) := Lib.hid ⟨by simp [World.setCell]; omega, bs B5.out (by omega) _⟩
      clear hown5 hrow hgrow5 hnews hownA hz5 hz2 o0 o1 o2 p0 p1 p2 K5 R5 B5 O5 K3 R3 O3 B3 K2 R2 O2 B2 W2 hg7 hb7
      generalize (w5.setCell ⟨w.heap.size + 1 + 1, 1, none⟩ (.slice (some ⟨g6, 0, none⟩) (j + 1) c6)) = w6 at O6 K6 R6 W6 B6 ⊢
      refine (HFj.out _).mono ?_
      rintro e7 w7 ⟨rfl, rfl⟩
      have O6 : Hid (Blk w6 (w.heap.size + 1 + 1) 25 (zcs k (some ⟨g6, 0, none⟩) (j + 1) c6 f)) := O6
      obtain ⟨⟨o0, o1, o2⟩, p0, p1, p2⟩ := zcells O6.out
      cases bf
      · have HF2 : Hid (f = zmk (j + 1) (fun v => T.getD v 0 == Zfull)) := Lib.hid (by rw [HZ.out, ← HFf.out]; simp)
        go_wp2_with fail
        exact ⟨⟨j + 1, top2, f, c6, some ⟨g6, 0, none⟩, by omega, by go_num, rfl, HTp, HF2, O6, Lib.hid (W6.out.own G6.out), K6, R6, B6⟩, by simp [intOf]; omega⟩
      · have HF2 : Hid (f + top = zmk (j + 1) (fun v => T.getD v 0 == Zfull)) := Lib.hid (by rw [HZ.out, ← HFf.out, HT2.out]; simp)
        have hft : (f : Int) + (top : Int) = ((f + top : Nat) : Int) := by omega
        have hftw : f + top < 18446744073709551616 := by omega
        generalize f + top = f2 at HF2 hft hftw
        have O7 := Lib.hid (O6.out.set_ 2 (zq f2))
        have K7 := Lib.hid (K6.out.far (p := ⟨w.heap.size + 1 + 1, 2, none⟩) (by simp; omega) (zq f2))
        have R7 := Lib.hid (R6.out.far (p := ⟨w.heap.size + 1 + 1, 2, none⟩) (by simp) (zq f2))
        have W7 := Lib.hid (W6.out.far (p := ⟨w.heap.size + 1 + 1, 2, none⟩) (by have := G6.out; simp; omega) (zq f2))
        have B7 : Hid (w.heap.size + 3 ≤ (w6.setCell ⟨w.heap.size + 1 + 1, 2, none⟩ (zq f2)).heap.size ∧ Below w.heap.size w (w6.setCell ⟨w.heap.size + 1 + 1, 2, none⟩ (zq f2))) := Lib.hid ⟨by have := B6.out.1; simp [World.setCell]; omega, bs B6.out.2 (by omega) _⟩
        go_wp2_with fail
        exact ⟨⟨j + 1, top2, f2, c6, some ⟨g6, 0, none⟩, by omega, by go_num, rfl, HTp, HF2, O7, Lib.hid (W7.out.own G6.out), K7, R7, B7⟩, by simp [intOf]; omega⟩
    · obtain rfl : j = n := by omega
      have HE : Hid (f = zfl T) := Lib.hid (by rw [HFf.out]; unfold zfl; rw [HT.out.1])
      have HOW2 : Hid (wr.ownsRow (w.heap.size + 3) 23 1 (.slice A' j c') j (T.map zq)) := Lib.hid (by have := HOW.out; rwa [List.take_of_length_le (by rw [HT.out.1]; exact Nat.le_refl _)] at this)
      obtain ⟨⟨r0, r1, r2⟩, p0, p1, p2⟩ := zcells HR.out
      go_wp2
      refine bodyPost_ret (map1_result rfl (((HR.out.set_ 0 _).set_ 1 _).set_ 2 _)) rfl ?_
      rw [← HE.out]
      refine ⟨A', c', rfl, ?_, bs (bs (bs HB.out.2 (by omega) _) (by omega) _) (by omega) _⟩
      exact own_zm (own_far (own_far (own_far HOW2.out (by simp) _) (by simp) _) (by simp) _) HT.out.1 (by omega) HT.out.2 (by rw [HE.out]; exact zfl_lt (by rw [HT.out.1]; omega))

/-- The reference's Set, at a place that is there. -/
theorem rset_any (k : Nat) (A : Option Addr) (n c F : Nat) (L : List Nat) (i : Nat) (b : Bool) (w : World) (hM : ZM w A n c L F) (hr : ZR k L F) (hi : i < k) :
    Calls Try.prog 18 #[zbv (k : Int) A n c F, .int .i64 (i : Int), .bool b] w fun e w' => ∃ A' c', e = .returned (zbv (k : Int) A' n c' (zfl (zset L i b))) ∧ ZM w' A' n c' (zset L i b) (zfl (zset L i b)) ∧ Below w.heap.size w w' := by
  have h6 := hr.len64
  have hl := hM.len
  refine rset_walk k A n c F i b (zset L i b) w (by omega) (Lib.hid ⟨by rw [zset_len]; exact hl, zset_lt hM.lt i b⟩) (Lib.hid fun j W hj hb => ?_) (Lib.hid fun j W => zfilled_any _ W)
  have := rword_walk k A n c F j i b L W (by omega) hj (Lib.hid fun W2 t ht hb2 => taken_any k A n c F L t W2 ((hM.later hb).later hb2) ht)
  rwa [← zset_at hM.lt b (by omega) j] at this
end Go.Proofs.Ythknelpcdoebiaa
