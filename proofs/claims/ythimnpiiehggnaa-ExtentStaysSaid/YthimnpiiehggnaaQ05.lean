/- Texts of this seat, one behind the other: EPieces, GLaw, ERound. -/
import Derived.Maps.AppendAt
import Derived.Shelf.SlSortCmp.NoneTotal
import Derived.RangeFuncBox
import Derived.RangeFuncNested
import Derived.RangeFuncBound
import Derived.RangeFuncCalls
import Derived.RangeFuncLeaves
import Derived.Shelf.Abstract
import Derived.Shelf.RegionOpen
import Derived.OwnWalkIn
import Derived.TacticsInMore
import Derived.LoopNIn
import Derived.LoopIn
import Derived.Deep.RegionHeld3
import Derived.Test.YthimnpiiehggnaaQ01
import Derived.Test.YthimnpiiehggnaaQ02
import Derived.Test.YthimnpiiehggnaaQ04
/- The contract of pieces. -/
namespace Go.Proofs.Ythimnpiiehggnaa
open Go.RowKit Go.Shelf

/-- A row of spans that the call owns: where its block is. -/
def SpB (W : World) (A : Option Addr) (P : List (Int × Int)) : Prop :=
  P = [] ∨ ∃ g cur, A = some ⟨g, 0, none⟩ ∧ Blk W g 37 cur ∧ cur.toList.take (P.length * 2) = rowCells P
theorem SpB.kept {W W' : World} {A : Option Addr} {P : List (Int × Int)} (h : SpB W A P) (hk : ∀ g cur, Blk W g 37 cur → Blk W' g 37 cur) : SpB W' A P := by
  rcases h with h | ⟨g, cur, e, hb, ht⟩
  · exact .inl h
  · exact .inr ⟨g, cur, e, hk g cur hb, ht⟩
theorem SpB.below {W W' : World} {A : Option Addr} {P : List (Int × Int)} (h : SpB W A P) (hb : Below W.heap.size W W') : SpB W' A P := h.kept (fun _ _ h => h.below hb)
theorem SpB.read {W : World} {A : Option Addr} {P : List (Int × Int)} (h : SpB W A P) (j : Nat) (hj : j < P.length) : ∃ g, A = some ⟨g, 0, none⟩ ∧ W.cell? ⟨g, j * 2, none⟩ = some (.int .u64 (P.getD j (0, 0)).1) ∧ W.cell? ⟨g, j * 2 + 1, none⟩ = some (.int .u64 (P.getD j (0, 0)).2) := by
  rcases h with rfl | ⟨g, cur, e, hb, ht⟩
  · simp at hj
  · obtain ⟨r0, r1⟩ := rowCells_at P j hj
    rw [← ht, List.getElem?_take] at r0 r1
    rw [if_pos (by omega), Array.getElem?_toList] at r0 r1
    have e2 : P.getD j (0, 0) = P[j] := by simp [List.getD, hj]
    rw [e2]
    exact ⟨g, e, by rw [hb.cell, r0], by rw [hb.cell, r1]⟩
theorem own_SpB {W : World} {base : Nat} {v : Value} {P : List (Int × Int)} (h : W.ownsRow base 37 2 v P.length (rowCells P)) : ∃ A c, v = .slice A P.length c ∧ SpB W A P := by
  rcases h.2 with ⟨rfl, h3⟩ | ⟨g, cap, cur, rfl, _, hh, _, _, _, h7⟩
  · exact ⟨none, 0, by rw [h3], .inl (List.eq_nil_of_length_eq_zero h3)⟩
  · exact ⟨_, cap, rfl, .inr ⟨g, cur, rfl, hh, h7⟩⟩
theorem etake_more (L : List Rn) (k : Nat) (h : k < L.length) : L.take (k + 1) = L.take k ++ [L.getD k default] := by
  rw [← List.take_append_getElem h]
  simp [List.getD, h]
theorem epair_more (Q : List Rn) (P : List (Int × Int)) (j : Nat) (t : Int) (h : j < P.length) : rcells (Q ++ (P.take (j + 1)).map (fun p => (⟨p.1, p.2, t⟩ : Rn))) = rcells (Q ++ (P.take j).map (fun p => (⟨p.1, p.2, t⟩ : Rn))) ++ [.int .u64 (P.getD j (0, 0)).1, .int .u64 (P.getD j (0, 0)).2, .int .i64 t] := by
  rw [← List.take_append_getElem h, List.map_append, ← List.append_assoc, List.map_cons, List.map_nil, rcells_snoc]
  simp [List.getD, h]
theorem own_cap {W : World} {base : Nat} {e : TypeId} {size : Nat} {A : Option Addr} {n c : Nat} {xs : List Value} (h : W.ownsRow base e size (.slice A n c) n xs) : c ≤ maxLen := by
  rcases h.2 with ⟨h2, _⟩ | ⟨g, cap, cur, hv, _, _, _, h5, _⟩
  · injection h2 with _ _ e3
    rw [e3]
    exact Nat.zero_le _
  · injection hv with _ _ e3
    rw [e3]
    exact h5
theorem esort_none (A : Option Addr) (c : Nat) (w : World) :
    Calls Try.prog 43 #[.slice A 0 c, .func (.func 44) #[] #[]] w fun e w' => e = .returned (.tuple #[]) ∧ w' = w :=
  AnyF.slices_SortFunc_none sortR A c _ w
theorem epc_less (f n : Int) (r : Rn) : epc f n r = (lessL r.f r.n (max r.f f) (min (r.f + (r.n - 1)) (f + (n - 1)))).map (fun p => (⟨p.1, p.2, r.s⟩ : Rn)) := by
  unfold epc lessL
  generalize min (r.f + (r.n - 1)) (f + (n - 1)) = B
  generalize max r.f f = A
  split
  · simp
  · split <;> split <;> simp

set_option maxRecDepth 100000 in
set_option maxHeartbeats 8000000 in
theorem epieces_any (A : Option Addr) (N c : Nat) (L : List Rn) (f n s : Int) (w : World) (hA : ER w A L) (hl : L.length = N) (hN : N ≤ 64) (hok : ∀ r ∈ L, 0 ≤ r.f ∧ 1 ≤ r.n ∧ r.f + r.n ≤ 576460752303423488) (f0 : 0 ≤ f) (n0 : 1 ≤ n) (fn : f + n ≤ 576460752303423488) :
    Calls Try.prog 31 #[.slice A N c, .agg #[.int .u64 f, .int .u64 n], .int .i64 s] w fun e w' => ∃ A' c' S, e = .returned (.slice A' S.length c') ∧ S.length ≤ c' ∧ c' ≤ maxLen ∧ ER w' A' S ∧ (S ≠ [] → ∃ g, A' = some ⟨g, 0, none⟩ ∧ w.heap.size ≤ g) ∧ S.Perm (epieces L f n s) ∧ S.Pairwise (fun a b => a.f ≤ b.f) ∧ Below w.heap.size w w' := by
  have HA := Lib.hid hA
  have HL := Lib.hid hl
  have HOK : Hid (∀ k, k < N → 0 ≤ (L.getD k default).f ∧ 1 ≤ (L.getD k default).n ∧ (L.getD k default).f + (L.getD k default).n ≤ 576460752303423488) := Lib.hid fun k hk => hok _ (egetD_mem (by omega))
  have HFN : Hid (0 ≤ f ∧ 1 ≤ n ∧ f + n ≤ 576460752303423488) := Lib.hid ⟨f0, n0, fn⟩
  have HQ0 : ∃ Q0 : List Rn, Hid (Q0 = if s = 0 then [] else [⟨f, n, s⟩]) := ⟨_, Lib.hid rfl⟩
  obtain ⟨Q0, HQ0⟩ := HQ0
  have HLEN : Hid (∀ k, (Q0 ++ (L.take k).flatMap (epc f n)).length ≤ 129) := Lib.hid fun k => by
    have h := epieces_len (L.take k) f n s
    unfold epieces at h
    rw [← HQ0.out] at h
    have : (L.take k).length ≤ 64 := by rw [List.length_take]; omega
    omega
  have HALL : Hid (epieces L f n s = Q0 ++ L.flatMap (epc f n)) := Lib.hid (by unfold epieces; rw [← HQ0.out])
  rw [HALL.out]
  have HP := Lib.hid (fun (r : Rn) W => espan_any r W)
  have HRN := Lib.hid (fun (a b d : Int) W => erun_any a b d W)
  obtain ⟨i0, hi0, hz0, hz1, hz2⟩ := info_parts infoE
  clear hA hl hok f0 n0 fn HALL
  go_enter Try.func31, Try.ntmps31
  go_upto_if 15 with fail
  have HB0 : Hid (Below w.heap.size w (w.alloc (.cells #[.int .u64 f, .int .u64 n] 37))) := Lib.hid (ba (Below.refl _ _) _)
  have HK0 : Hid (Blk (w.alloc (.cells #[.int .u64 f, .int .u64 n] 37)) w.heap.size 37 #[.int .u64 f, .int .u64 n]) := Lib.hid (Blk.new _ _ _)
  generalize w.alloc (.cells #[.int .u64 f, .int .u64 n] 37) = W0 at HB0 HK0 ⊢
  go_cut [7] from 14 to 21 (fun s7 wx => ∃ A1 c1 m1, s7 = .slice A1 m1 c1 ∧ Hid (Q0.length = m1) ∧ Hid (wx.ownsRow w.heap.size 47 3 (.slice A1 m1 c1) m1 (rcells Q0)) ∧ Hid (Blk wx w.heap.size 37 #[.int .u64 f, .int .u64 n]) ∧ Hid (Below w.heap.size w wx))
  case first =>
    by_cases hs : s = 0
    · have e1 : (s != 0) = false := by simpa using hs
      have e2 : (s == 0) = true := by simpa using hs
      have HQ1 : Hid (Q0 = []) := Lib.hid (by rw [HQ0.out, if_pos hs])
      clear hs
      go_wp2_with fail
      go_meet
      case rel => exact ⟨none, 0, 0, rfl, by rw [HQ1.out]; exact rfl, by rw [HQ1.out]; exact Lib.hid (World.ownsRow_nil _ _ _ _), HK0, HB0⟩
    · have e1 : (s != 0) = true := by simpa using hs
      have e2 : (s == 0) = false := by simpa using hs
      have HQ1 : Hid (Q0 = [⟨f, n, s⟩]) := Lib.hid (by rw [HQ0.out, if_neg hs])
      clear hs
      have q0 : W0.cell? ⟨w.heap.size, 0, none⟩ = some (.int .u64 f) := HK0.out.cell 0
      have q1 : W0.cell? ⟨w.heap.size, 1, none⟩ = some (.int .u64 n) := HK0.out.cell 1
      go_wp2_with fail
      refine (HRN.out f n s _).mono ?_
      rintro e w1 ⟨rfl, hb1⟩
      have hown0 : (w1.alloc (.cells #[.int .u64 f, .int .u64 n, .int .i64 s] 47)).ownsRow w.heap.size 47 3 (.slice none 0 0) 0 [] := World.ownsRow_nil _ _ _ _
      have hnews : ∀ (j : Nat) (u : Value), ([.int .u64 f, .int .u64 n, .int .i64 s] : List Value)[j]? = some u → (w1.alloc (.cells #[.int .u64 f, .int .u64 n, .int .i64 s] 47)).cell? ((⟨w1.heap.size, 0, none⟩ : Addr).add j) = some u := news_new w1 [.int .u64 f, .int .u64 n, .int .i64 s] 47
      have HB1 := Lib.hid (bt HB0.out hb1)
      have HK1 := Lib.hid (HK0.out.below hb1)
      have hsz : w.heap.size ≤ (w1.alloc (.cells #[.int .u64 f, .int .u64 n, .int .i64 s] 47)).heap.size := (ba HB1.out _).size
      go_wp2_with (at_builtin; refine wpList_append_own_at _ rfl _ _ 22 rfl w.heap.size 47 i0 (.agg #[.int .u64 0, .int .u64 0, .int .i64 0]) 3 24 Try.underlying22 hi0 hz0 hz1 hz2 rfl (by decide) _ _ _ rfl hown0 ⟨w1.heap.size, 0, none⟩ 1 1 [.int .u64 f, .int .u64 n, .int .i64 s] rfl rfl hnews (by simp [Value.oneCell']) (by unfold maxLen; omega) (by omega) hsz ?_; intro v4 w6 hown6 hgrow6 _ _; obtain ⟨g6, c6, rfl⟩ := ownsRow_succ hown6; have HK6 := Lib.hid ((HK1.out.alloc _).grown hgrow6 (fun e => by cases e)); have HB6 := Lib.hid ((ba HB1.out _).grown hgrow6 hsz (fun k e => by cases e)); have HO6 := Lib.hid hown6; clear hgrow6)
      go_meet
      case rel => exact ⟨some ⟨g6, 0, none⟩, c6, 1, rfl, by rw [HQ1.out]; exact rfl, by rw [HQ1.out]; exact HO6, HK6, HB6⟩
  case rest =>
    obtain ⟨A1, c1, m1, rfl, HM1, HO1, HK1, HB1⟩ := hcut
    clear HB0 HK0
    go_wp2_with fail
    go_loopw [7, 24] (fun sv iv wr => ∃ (k : Nat) (A2 : Option Addr) (m c2 : Nat) (Q : List Rn), k ≤ N ∧ iv = .int .i64 k ∧ sv = .slice A2 m c2 ∧ Hid (Q = Q0 ++ (L.take k).flatMap (epc f n)) ∧ Hid (Q.length = m) ∧ Hid (wr.ownsRow w.heap.size 47 3 (.slice A2 m c2) m (rcells Q)) ∧ Hid (Blk wr w.heap.size 37 #[.int .u64 f, .int .u64 n]) ∧ Hid (Below w.heap.size w wr)) (fun _ i _ => N - (intOf i).toNat)
    case atStart => exact ⟨0, A1, m1, c1, Q0, Nat.zero_le _, rfl, rfl, Lib.hid (by simp), HM1, HO1, HK1, HB1⟩
    case round =>
      obtain ⟨k, A2, m, c2, Q, hk, rfl, rfl, HQ, HM, HO, HK, HB⟩ := hrel
      rename World => wq
      by_cases hlt : k < N
      · obtain ⟨g, off, rfl, d0, d1, d2⟩ := (HA.out.later HB.out) k (by rw [HL.out]; exact hlt)
        have HX := Lib.hid (HOK.out k hlt)
        have HTK : Hid (L.take (k + 1) = L.take k ++ [L.getD k default]) := Lib.hid (etake_more L k (by rw [HL.out]; exact hlt))
        have i1 : (0 : Int) ≤ (k : Int) := by omega
        have i2 : (k : Int) < (N : Int) := by omega
        generalize L.getD k default = x at d0 d1 d2 HX HTK
        have HPL : Hid (∀ W, Calls Try.prog 42 #[.agg #[.int .u64 x.f, .int .u64 x.n], .agg #[.int .u64 f, .int .u64 n]] W (LessPost W (lessL x.f x.n (max x.f f) (min (x.f + (x.n - 1)) (f + (n - 1)))))) := Lib.hid fun W => less_any x.f x.n f n _ _ W HX.out.1 HX.out.2.1 (by have := HX.out; omega) HFN.out.1 HFN.out.2.1 (by have := HFN.out; omega) rfl rfl
        have HEP := Lib.hid (epc_less f n x)
        have HPS : Hid ((lessL x.f x.n (max x.f f) (min (x.f + (x.n - 1)) (f + (n - 1)))).length ≤ 2) := Lib.hid (by have := epc_len f n x; rw [HEP.out, List.length_map] at this; exact this)
        generalize lessL x.f x.n (max x.f f) (min (x.f + (x.n - 1)) (f + (n - 1))) = P at HPL HEP HPS
        go_upto_region 7 with fail
        have HB2 : Hid (Below w.heap.size w (wq.alloc (.cells #[.int .u64 x.f, .int .u64 x.n, .int .i64 x.s] 47))) := Lib.hid (ba HB.out _)
        have HX2 : Hid (Blk (wq.alloc (.cells #[.int .u64 x.f, .int .u64 x.n, .int .i64 x.s] 47)) wq.heap.size 47 #[.int .u64 x.f, .int .u64 x.n, .int .i64 x.s]) := Lib.hid (Blk.new _ _ _)
        have HK2 : Hid (Blk (wq.alloc (.cells #[.int .u64 x.f, .int .u64 x.n, .int .i64 x.s] 47)) w.heap.size 37 #[.int .u64 f, .int .u64 n]) := Lib.hid (HK.out.alloc _)
        have HO2 : Hid ((wq.alloc (.cells #[.int .u64 x.f, .int .u64 x.n, .int .i64 x.s] 47)).ownsRow w.heap.size 47 3 (.slice A2 m c2) m (rcells Q)) := Lib.hid (own_alloc HO.out _)
        have HNE : Hid ((Value.slice A2 m c2).ownBlock ≠ some wq.heap.size) := Lib.hid (fun h => by obtain ⟨_, cs, hc⟩ := vown_blk HO.out _ h; exact absurd hc.lt (Nat.lt_irrefl _))
        have a0 : (wq.alloc (.cells #[.int .u64 x.f, .int .u64 x.n, .int .i64 x.s] 47)).cell? ⟨wq.heap.size, 0, none⟩ = some (.int .u64 x.f) := HX2.out.cell 0
        have a1 : (wq.alloc (.cells #[.int .u64 x.f, .int .u64 x.n, .int .i64 x.s] 47)).cell? ⟨wq.heap.size, 1, none⟩ = some (.int .u64 x.n) := HX2.out.cell 1
        have a2 : (wq.alloc (.cells #[.int .u64 x.f, .int .u64 x.n, .int .i64 x.s] 47)).cell? ⟨wq.heap.size, 2, none⟩ = some (.int .i64 x.s) := HX2.out.cell 2
        have b0 : (wq.alloc (.cells #[.int .u64 x.f, .int .u64 x.n, .int .i64 x.s] 47)).cell? ⟨w.heap.size, 0, none⟩ = some (.int .u64 f) := HK2.out.cell 0
        have b1 : (wq.alloc (.cells #[.int .u64 x.f, .int .u64 x.n, .int .i64 x.s] 47)).cell? ⟨w.heap.size, 1, none⟩ = some (.int .u64 n) := HK2.out.cell 1
        generalize (wq.alloc (.cells #[.int .u64 x.f, .int .u64 x.n, .int .i64 x.s] 47)) = W2 at HB2 HX2 HK2 HO2 a0 a1 a2 b0 b1 ⊢
        clear HO d0 d1 d2
        refine wp_region_held_drew (S := fun Wq => Wq.cell? ⟨wq.heap.size, 0, none⟩ = some (.int .u64 x.f) ∧ Wq.cell? ⟨wq.heap.size, 1, none⟩ = some (.int .u64 x.n) ∧ Wq.cell? ⟨wq.heap.size, 2, none⟩ = some (.int .i64 x.s) ∧ Wq.cell? ⟨w.heap.size, 0, none⟩ = some (.int .u64 f) ∧ Wq.cell? ⟨w.heap.size, 1, none⟩ = some (.int .u64 n) ∧ Below W2.heap.size W2 Wq) (by kernel_rfl) ⟨a0, a1, a2, b0, b1, (Below.refl _ _).drew⟩ (fun hHeld => ?_)
        refine wpAnyH_take (i := 0) (oi := ⟨some 29, _, _, _, _, _⟩) (v := .agg #[.int .u64 x.f, .int .u64 x.n, .int .i64 x.s]) rfl (by kernel_rfl) (by kernel_rfl) (by kernel_rfl) (fun _ _ _ h => h) (Or.inl ⟨by rfl, ?_⟩) (by assumption) ?_
        · (intro w9 hSw; obtain ⟨q0, q1, q2, q3, q4, _⟩ := hSw; (try dsimp only at hSw); go_simp; try with_reducible rfl)
        try simp only [Act.put, List.setIfInBounds_toArray, List.set_cons_zero, List.set_cons_succ]
        refine wpAnyH_take (i := 2) (oi := ⟨some 31, _, _, _, _, _⟩) (v := .agg #[.int .u64 f, .int .u64 n]) rfl (by kernel_rfl) (by kernel_rfl) (by kernel_rfl) (fun _ _ _ h => h) (Or.inl ⟨by rfl, ?_⟩) (by assumption) ?_
        · (intro w9 hSw; obtain ⟨q0, q1, q2, q3, q4, _⟩ := hSw; (try dsimp only at hSw); go_simp; try with_reducible rfl)
        try simp only [Act.put, List.setIfInBounds_toArray, List.set_cons_zero, List.set_cons_succ]
        refine wpAnyH_ready (rs := [1]) (by kernel_rfl) (by simp) ?_
        refine AllReadyH.cons (o := ⟨some 30, _, _, _, _, _⟩) rfl (fun K9 hK9 => ?_) AllReadyH.nil
        go_simp; go_at_call 37
        refine (HP.out x _).mono ?_
        rintro e w3 ⟨rfl, hb3⟩
        have hb3S : w3.cell? ⟨wq.heap.size, 0, none⟩ = some (.int .u64 x.f) ∧ w3.cell? ⟨wq.heap.size, 1, none⟩ = some (.int .u64 x.n) ∧ w3.cell? ⟨wq.heap.size, 2, none⟩ = some (.int .i64 x.s) ∧ w3.cell? ⟨w.heap.size, 0, none⟩ = some (.int .u64 f) ∧ w3.cell? ⟨w.heap.size, 1, none⟩ = some (.int .u64 n) ∧ Below W2.heap.size W2 w3 := ⟨ecell hb3 a0, ecell hb3 a1, ecell hb3 a2, ecell hb3 b0, ecell hb3 b1, bt ((Below.refl _ _).drew) hb3⟩
        refine hK9.out _ _ ?_ (fun hHeld => ?_)
        · exact hb3S
        clear hK9 K9
        try simp only [Act.put, List.setIfInBounds_toArray, List.set_cons_zero, List.set_cons_succ]
        refine wpAnyH_ready (rs := [3]) (by kernel_rfl) (by simp) ?_
        refine AllReadyH.cons (o := ⟨some 32, _, _, _, _, _⟩) rfl (fun K9 hK9 => ?_) AllReadyH.nil
        go_simp; go_at_call 42
        obtain ⟨k0, k1, k2, k3, k4, k5⟩ := hb3S
        refine (HPL.out _).mono ?_
        rintro e w4 ⟨v4, rfl, ho4, hb4⟩
        obtain ⟨A4, c4, rfl, hS4⟩ := own_SpB ho4
        have hb4S : w4.cell? ⟨wq.heap.size, 0, none⟩ = some (.int .u64 x.f) ∧ w4.cell? ⟨wq.heap.size, 1, none⟩ = some (.int .u64 x.n) ∧ w4.cell? ⟨wq.heap.size, 2, none⟩ = some (.int .i64 x.s) ∧ w4.cell? ⟨w.heap.size, 0, none⟩ = some (.int .u64 f) ∧ w4.cell? ⟨w.heap.size, 1, none⟩ = some (.int .u64 n) ∧ Below W2.heap.size W2 w4 := ⟨ecell hb4 k0, ecell hb4 k1, ecell hb4 k2, ecell hb4 k3, ecell hb4 k4, bt k5 hb4⟩
        refine hK9.out _ _ ?_ (fun hHeld => ?_)
        · exact hb4S
        clear hK9 K9
        try simp only [Act.put, List.setIfInBounds_toArray, List.set_cons_zero, List.set_cons_succ]
        refine wpAnyH_take (i := 4) (oi := ⟨some 28, _, _, _, _, _⟩) (v := ?_) rfl (by kernel_rfl) (by kernel_rfl) (by kernel_rfl) (fun _ _ _ h => h) (Or.inl ⟨by rfl, ?_⟩) (by assumption) ?_
        rotate_left
        · (intro w9 hSw; (try dsimp only at hSw); go_simp; try with_reducible rfl)
        try simp only [Act.put, List.setIfInBounds_toArray, List.set_cons_zero, List.set_cons_succ]
        refine wpAnyH_take (i := 5) (oi := ⟨some 33, _, _, _, _, _⟩) (v := ?_) rfl (by kernel_rfl) (by kernel_rfl) (by kernel_rfl) (fun _ _ _ h => h) (Or.inl ⟨by rfl, ?_⟩) (by assumption) ?_
        rotate_left
        · (intro w9 hSw; (try dsimp only at hSw); go_simp; try with_reducible rfl)
        try simp only [Act.put, List.setIfInBounds_toArray, List.set_cons_zero, List.set_cons_succ]
        refine wpAnyH_take (i := 6) (oi := ⟨some 34, _, _, _, _, _⟩) (v := ?_) rfl (by kernel_rfl) (by kernel_rfl) (by kernel_rfl) (fun _ _ _ h => h) (Or.inl ⟨by rfl, ?_⟩) (by assumption) ?_
        rotate_left
        · (intro w9 hSw; (try dsimp only at hSw); go_simp; try with_reducible rfl)
        try simp only [Act.put, List.setIfInBounds_toArray, List.set_cons_zero, List.set_cons_succ]
        refine wpAnyH_take (i := 7) (oi := ⟨some 10, _, _, _, _, _⟩) (v := ?_) rfl (by kernel_rfl) (by kernel_rfl) (by kernel_rfl) (fun _ _ _ h => h) (Or.inl ⟨by rfl, ?_⟩) (by assumption) ?_
        rotate_left
        · (intro w9 hSw; (try dsimp only at hSw); go_simp; try with_reducible rfl)
        try simp only [Act.put, List.setIfInBounds_toArray, List.set_cons_zero, List.set_cons_succ]
        refine wpAnyH_take (i := 8) (oi := ⟨some 11, _, _, _, _, _⟩) (v := ?_) rfl (by kernel_rfl) (by kernel_rfl) (by kernel_rfl) (fun _ _ _ h => h) (Or.inl ⟨by rfl, ?_⟩) (by assumption) ?_
        rotate_left
        · (intro w9 hSw; (try dsimp only at hSw); go_simp; try with_reducible rfl)
        try simp only [Act.put, List.setIfInBounds_toArray, List.set_cons_zero, List.set_cons_succ]
        refine wpAnyH_done (by kernel_rfl) ?_ _
        obtain ⟨_, _, _, _, _, hbx⟩ := hb4S
        have HB4 := Lib.hid (bt HB2.out hbx)
        have HX4 := Lib.hid (HX2.out.below hbx)
        have HK4 := Lib.hid (HK2.out.below hbx)
        have HO4 := Lib.hid (own_later HO2.out hbx)
        have HS4 := Lib.hid hS4
        clear hbx hb4 hb3 ho4 hS4 hHeld a0 a1 a2 b0 b1
        obtain ⟨pl, HPN⟩ : ∃ pl, Hid (P.length = pl) := ⟨_, Lib.hid rfl⟩
        have hpl2 : pl ≤ 2 := by rw [← HPN.out]; exact HPS.out
        rw [HPN.out]
        go_wp2_with fail
        go_loopw [7, 37] (fun sv jv wr => ∃ (j : Nat) (A5 : Option Addr) (c5 : Nat), j ≤ pl ∧ jv = .int .i64 j ∧ sv = .slice A5 (m + j) c5 ∧ Hid (wr.ownsRow w.heap.size 47 3 (.slice A5 (m + j) c5) (m + j) (rcells (Q ++ (P.take j).map (fun p => (⟨p.1, p.2, x.s⟩ : Rn))))) ∧ Hid ((Value.slice A5 (m + j) c5).ownBlock ≠ some wq.heap.size) ∧ Hid (Blk wr wq.heap.size 47 #[.int .u64 x.f, .int .u64 x.n, .int .i64 x.s]) ∧ Hid (SpB wr A4 P) ∧ Hid (Blk wr w.heap.size 37 #[.int .u64 f, .int .u64 n]) ∧ Hid (Below w.heap.size w wr)) (fun _ i _ => pl - (intOf i).toNat)
        case atStart => exact ⟨0, A2, c2, Nat.zero_le _, rfl, rfl, Lib.hid (by simpa using HO4.out), HNE, HX4, HS4, HK4, HB4⟩
        case round =>
          obtain ⟨j, A5, c5, hj, rfl, rfl, HO5, HN5, HX5, HS5, HK5, HB5⟩ := hrel
          by_cases hjl : j < pl
          · obtain ⟨g4, rfl, e0, e1⟩ := HS5.out.read j (by rw [HPN.out]; exact hjl)
            have HTJ : Hid (rcells (Q ++ (P.take (j + 1)).map (fun p => (⟨p.1, p.2, x.s⟩ : Rn))) = rcells (Q ++ (P.take j).map (fun p => (⟨p.1, p.2, x.s⟩ : Rn))) ++ [.int .u64 (P.getD j (0, 0)).1, .int .u64 (P.getD j (0, 0)).2, .int .i64 x.s]) := Lib.hid (epair_more Q P j x.s (by rw [HPN.out]; exact hjl))
            have HLJ : Hid (m + j ≤ 4096) := Lib.hid (by have h1 := HLEN.out k; have h2 := HQ.out; have h3 := HM.out; rw [← h2] at h1; have := HPS.out; rw [HPN.out] at this; omega)
            have zx : wq.heap.size < wr.heap.size := HX5.out.lt
            have x2 : wr.cell? ⟨wq.heap.size, 2, none⟩ = some (.int .i64 x.s) := HX5.out.cell 2
            have i3 : (0 : Int) ≤ (j : Int) := by omega
            have i4 : (j : Int) < (pl : Int) := by omega
            generalize P.getD j (0, 0) = y at e0 e1 HTJ
            obtain ⟨yf, yn⟩ := y
            simp only at e0 e1 HTJ
            go_wp2_with fail
            refine (HRN.out yf yn x.s _).mono ?_
            rintro e w6 ⟨rfl, hb6⟩
            have HW6 := Lib.hid (bt (ba (Below.refl wr.heap.size wr) _) hb6)
            have HU6 : Hid (Below wr.heap.size wr (w6.alloc (.cells #[.int .u64 yf, .int .u64 yn, .int .i64 x.s] 47))) := Lib.hid (ba HW6.out _)
            have hown0 := own_later HO5.out HU6.out
            have hnews : ∀ (j : Nat) (u : Value), ([.int .u64 yf, .int .u64 yn, .int .i64 x.s] : List Value)[j]? = some u → (w6.alloc (.cells #[.int .u64 yf, .int .u64 yn, .int .i64 x.s] 47)).cell? ((⟨w6.heap.size, 0, none⟩ : Addr).add j) = some u := news_new w6 [.int .u64 yf, .int .u64 yn, .int .i64 x.s] 47
            have hsz : w.heap.size ≤ (w6.alloc (.cells #[.int .u64 yf, .int .u64 yn, .int .i64 x.s] 47)).heap.size := Nat.le_trans HB5.out.size HU6.out.size
            clear hb6 x2 e0 e1
            go_wp2_with (at_builtin; refine wpList_append_own_at _ rfl _ _ 22 rfl w.heap.size 47 i0 (.agg #[.int .u64 0, .int .u64 0, .int .i64 0]) 3 24 Try.underlying22 hi0 hz0 hz1 hz2 rfl (by decide) _ _ _ rfl hown0 ⟨w6.heap.size, 0, none⟩ 1 1 [.int .u64 yf, .int .u64 yn, .int .i64 x.s] rfl rfl hnews (by simp [Value.oneCell']) (by unfold maxLen; have := HLJ.out; omega) (by have := HLJ.out; omega) hsz ?_; intro v8 w8 hown8 hgrow8 _ hat8; obtain ⟨g8, c8, rfl⟩ := ownsRow_succ hown8; have HZ8 := Lib.hid (And.intro hown8 (And.intro hgrow8 hat8)); clear hown8 hgrow8 hat8 hown0)
            refine ⟨⟨j + 1, some ⟨g8, 0, none⟩, c8, by omega, by go_num, rfl, ?_, ?_, ?_, ?_, ?_, ?_⟩, by simp [intOf]; omega⟩
            · rw [HTJ.out]; exact Lib.hid HZ8.out.1
            · refine Lib.hid fun h => ?_
              change (Value.slice (some ⟨g8, 0, none⟩) (m + j + 1) c8).ownBlock = some wq.heap.size at h
              rcases HZ8.out.2.2 with h9 | h9
              · rw [h9] at h; exact HN5.out h
              · rw [h9] at h
                injection h with h
                have := HX5.out.lt
                have := HU6.out.size
                omega
            · exact Lib.hid ((HX5.out.below HU6.out).grown HZ8.out.2.1 (fun h => HN5.out h.symm))
            · exact Lib.hid (HS5.out.kept fun g cur hgc => (hgc.below HU6.out).grown HZ8.out.2.1 (fun h => vown_ne (own_later HO5.out HU6.out) (hgc.below HU6.out) (by decide) h.symm))
            · exact Lib.hid ((HK5.out.below HU6.out).grown HZ8.out.2.1 (fun h => vown_ne (own_later HO5.out HU6.out) (HK5.out.below HU6.out) (by decide) h.symm))
            · exact Lib.hid ((HB5.out.trans (HU6.out.mono HB5.out.size)).grown HZ8.out.2.1 hsz (fun q e => ((own_later HO5.out HU6.out).lt q e).1))
          · obtain rfl : j = pl := by omega
            have HQ9 : Hid (Q ++ (P.take j).map (fun p => (⟨p.1, p.2, x.s⟩ : Rn)) = Q0 ++ (L.take (k + 1)).flatMap (epc f n)) := Lib.hid (by rw [← HPN.out, List.take_length, HQ.out, HTK.out, List.flatMap_append, List.append_assoc, ← HEP.out]; simp)
            go_wp2_with fail
            exact ⟨⟨k + 1, A5, m + j, c5, _, by omega, by go_num, rfl, Lib.hid HQ9.out, Lib.hid (by rw [List.length_append, List.length_map, List.length_take, HM.out, HPN.out]; omega), HO5, HK5, HB5⟩, by simp [intOf]; omega⟩
      · obtain rfl : k = N := by omega
        have HQ9 : Hid (Q = Q0 ++ L.flatMap (epc f n)) := Lib.hid (by rw [HQ.out, ← HL.out, List.take_length])
        by_cases hm0 : m = 0
        · subst hm0
          have HE : Hid (Q = []) := Lib.hid (List.eq_nil_of_length_eq_zero HM.out)
          have HCM : Hid (c2 ≤ maxLen) := Lib.hid (own_cap HO.out)
          have HSO := Lib.hid (fun W => esort_none A2 c2 W)
          clear HQ HO
          go_wp2_with fail
          refine (HSO.out _).mono ?_
          rintro e w5 ⟨rfl, rfl⟩
          go_wp2
          go_ret
          exact ⟨A2, c2, [], rfl, Nat.zero_le _, HCM.out, ER.nil _ _, fun h => absurd rfl h, by rw [← HQ9.out, HE.out], List.Pairwise.nil, HB.out⟩
        · have HCM : Hid (c2 ≤ maxLen) := Lib.hid (own_cap HO.out)
          obtain ⟨_, ⟨he, _⟩ | ⟨g, cap, cur, he, hg, hh, hle, hcap, hsz, htk⟩⟩ := HO.out
          · injection he with _ he _
            exact absurd he hm0
          · injection he with he1 he2 he3
            subst he1 he3
            have HH : Hid (Go.Sort.HoldsK rc 3 wq g 0 Q.toArray) := Lib.hid (eholds_owned hh (by rw [HM.out]; exact htk))
            have hgl : g < wq.heap.size := (Array.getElem?_eq_some_iff.1 hh).1
            have HSO : Hid (Calls Try.prog 43 #[.slice (some ⟨g, 0, none⟩) m c2, .func (.func 44) #[] #[]] wq (ESortPost wq g Q)) := Lib.hid (by
              have h9 := esort_any g c2 Q wq HH.out hgl (by rw [HM.out]; have := HLEN.out k; rw [← HQ.out, HM.out] at this; omega)
              rw [HM.out] at h9
              exact h9)
            have HGE := Lib.hid hg
            clear htk hh hsz hcap hgl hg HH
            go_wp2_with fail
            refine (HSO.out).mono ?_
            rintro e w5 ⟨rfl, S, hperm, hris, hlen, her, hbel⟩
            have HF : Hid (S.length = m ∧ S.Perm Q ∧ S.Pairwise (fun a b => a.f ≤ b.f) ∧ ER w5 (some ⟨g, 0, none⟩) S ∧ Below w.heap.size w w5) := Lib.hid ⟨hlen.trans HM.out, hperm, hris, her, HB.out.trans (hbel _ HGE.out)⟩
            have HLE := Lib.hid hle
            clear hperm hris hlen her hbel hle HSO
            go_wp2
            go_ret
            refine ⟨some ⟨g, 0, none⟩, c2, S, by rw [HF.out.1]; rfl, by rw [HF.out.1]; exact HLE.out, HCM.out, HF.out.2.2.2.1, fun _ => ⟨g, rfl, HGE.out⟩, by rw [← HQ9.out]; exact HF.out.2.1, HF.out.2.2.1, HF.out.2.2.2.2⟩
end Go.Proofs.Ythimnpiiehggnaa
/- A loop over a function that hands values on and that owns some blocks: what the loop owes, what the function owes. Nothing of any function. -/
namespace Go.Proofs.Ythimnpiiehggnaa
open Go.RowKit Go.Shelf

/-- The world has grown, and of what was there only blocks of X are turned. -/
structure Grow (X : Nat → Prop) (W W' : World) : Prop where
  os : W'.os = W.os
  tape : W'.tape = W.tape
  output : W'.output = W.output
  size : W.heap.size ≤ W'.heap.size
  block : ∀ k, k < W.heap.size → ¬ X k → W'.heap[k]? = W.heap[k]?
/-- X, and what is new. -/
def Xn (X : Nat → Prop) (W W' : World) : Nat → Prop := fun k => X k ∨ (W.heap.size ≤ k ∧ k < W'.heap.size)
/-- Of X all is there. -/
def Bd (X : Nat → Prop) (W : World) : Prop := ∀ k, X k → k < W.heap.size
/-- X's blocks are as they were. -/
def Keep (X : Nat → Prop) (W W' : World) : Prop := W.heap.size ≤ W'.heap.size ∧ ∀ k, X k → W'.heap[k]? = W.heap[k]?
/-- It abides what X's owner does. -/
def Ab {β : Type} (J : β → (Nat → Prop) → World → Prop) : Prop := ∀ s X W W', J s X W → Grow X W W' → J s (Xn X W W') W'
section
variable {X : Nat → Prop} {A B C : World}
theorem Grow.refl (X : Nat → Prop) (W : World) : Grow X W W := ⟨rfl, rfl, rfl, Nat.le_refl _, fun _ _ _ => rfl⟩
theorem Grow.of_below (h : Below A.heap.size A B) (X : Nat → Prop) : Grow X A B := ⟨h.os, h.tape, h.output, h.size, fun k hk _ => h.block k hk⟩
theorem Grow.wide {Y : Nat → Prop} (h : Grow X A B) (hy : ∀ k, X k → Y k) : Grow Y A B := ⟨h.os, h.tape, h.output, h.size, fun k hk hn => h.block k hk (fun hx => hn (hy k hx))⟩
theorem Grow.alloc (X : Nat → Prop) (W : World) (o : Obj) : Grow X W (W.alloc o) := Grow.of_below ((Below.refl _ _).alloc (Nat.le_refl _) o) X
theorem Grow.putObj {l : Nat} (hl : X l) (W : World) (o : Obj) : Grow X W (W.putObj l o) := by
  have h := grownBy_putObj' W l o
  exact ⟨h.os, h.tape, h.output, h.size, fun k hk hn => h.block k hk (fun e => by cases e; exact hn hl)⟩
theorem Grow.setCell {g o : Nat} (hg : X g) (W : World) (v : Value) : Grow X W (W.setCell ⟨g, o, none⟩ v) :=
  ⟨rfl, rfl, rfl, by simp [World.setCell], fun k _ hn => Below.heap_setCell W ⟨g, o, none⟩ v k (fun e => hn (by have : k = g := e; rw [this]; exact hg))⟩
theorem Grow.drew (h : Grow X A B) : Grow X A B.drew := ⟨h.os, h.tape, h.output, h.size, h.block⟩
theorem Xn.bd (h : Bd X A) (hs : A.heap.size ≤ B.heap.size) : Bd (Xn X A B) B := fun k hk => by
  rcases hk with hk | hk
  · exact Nat.lt_of_lt_of_le (h k hk) hs
  · exact hk.2
theorem Xn.old {k : Nat} (h : X k) : Xn X A B k := .inl h
theorem Xn.none (h : B.heap.size = A.heap.size) : Xn X A B = X := by
  funext k
  apply propext
  unfold Xn
  constructor
  · rintro (h1 | ⟨h1, h2⟩)
    · exact h1
    · omega
  · exact .inl
theorem Xn.add (Y : Nat → Prop) : Xn (fun k => X k ∨ Y k) A B = fun k => Xn X A B k ∨ Y k := by
  funext k
  apply propext
  unfold Xn
  constructor
  · rintro ((h | h) | h)
    · exact .inl (.inl h)
    · exact .inr h
    · exact .inl (.inr h)
  · rintro ((h | h) | h)
    · exact .inl (.inl h)
    · exact .inr h
    · exact .inl (.inr h)
theorem Keep.trans (h : Keep X A B) (k : Keep X B C) : Keep X A C := ⟨Nat.le_trans h.1 k.1, fun i hi => (k.2 i hi).trans (h.2 i hi)⟩
theorem Keep.less {Y : Nat → Prop} (h : Keep X A B) (hy : ∀ k, Y k → X k) : Keep Y A B := ⟨h.1, fun k hk => h.2 k (hy k hk)⟩
theorem Keep.refl (X : Nat → Prop) (W : World) : Keep X W W := ⟨Nat.le_refl _, fun _ _ => rfl⟩
theorem Keep.of_below (h : Below A.heap.size A B) (hx : Bd X A) : Keep X A B := ⟨h.size, fun k hk => h.block k (hx k hk)⟩
theorem Keep.drew (h : Keep X A B) : Keep X A B.drew := h
theorem Keep.setCell (h : Keep X A B) {g o : Nat} (hg : ¬ X g) (v : Value) : Keep X A (B.setCell ⟨g, o, none⟩ v) :=
  ⟨by simpa [World.setCell] using h.1, fun k hk => (Below.heap_setCell B ⟨g, o, none⟩ v k (fun e => hg (by have : k = g := e; rw [← this]; exact hk))).trans (h.2 k hk)⟩
end

/-- What is asked of the function that hands values on, none of which ends the loop. -/
def HandsX {α : Type} (n gf : Nat) (lb : Array Value) (enc : α → Value) (zs : List α) (X0 : Nat → Prop) (w : World) : Prop :=
  ∀ (l : Nat) (J : List α → (Nat → Prop) → World → Prop) (X : Nat → Prop) (W : World), (∀ k, X0 k → X k ∧ W.heap[k]? = w.heap[k]?) → Ab J →
    (∀ pre x Y W1, J pre Y W1 → Bd Y W1 → (pre ++ [x]) <+: zs → YieldAt Fence.wide (n - 1) Try.prog l #[enc x] W1 fun e W' =>
      e = .returned (.bool true) ∧ J (pre ++ [x]) Y W' ∧ Keep Y W1 W') → J [] X W → Bd X W →
    CallsIn Fence.wide n Try.prog gf (#[.func (.yield l) #[] #[]] ++ lb) W fun e W' => (∃ v, e = .returned v) ∧ ∃ Y, J zs Y W' ∧ Bd Y W'

/-- How a round is left. -/
def LeftX {α : Type} (I : List α → (Nat → Prop) → World → Prop) (xs : List α) (Y : Nat → Prop) (W : World) : Exit → Act → World → Prop
  | .normal, _, W' => I xs Y W' ∧ Keep Y W W'
  | _, _, _ => False

set_option maxHeartbeats 1000000 in
theorem range_frame {α : Type} {n : Nat} {g : Operand} {p : Tmp} {assign body : Code} {Q : Exit → Act → World → Prop} {a : Act} {w : World} (hn : 1 ≤ n) {gf : Nat} {lb : Array Value}
    (hg : a.eval g = .func (.func gf) #[] lb) (eg : ∀ args w, (callFunc gf args).run Try.prog w = .ok (.enter gf args) w) {enc : α → Value} {zs : List α} {X0 : Nat → Prop} {w0 : World}
    (hH : HandsX (n - 1) gf lb enc zs X0 w0) (hX0 : ∀ k, X0 k → k < w.heap.size ∧ w.heap[k]? = w0.heap[k]?)
    (I : List α → (Nat → Prop) → World → Prop) (hI : Ab I) (h0 : I [] X0 w) (Ax : α → Act → World → Prop) (hAx : ∀ x a' W l o o', Ax x a' W → w.heap.size ≤ l → W.heap[l]? = some o → o.isCells = false → Ax x a' (W.putObj l o'))
    (hassign : ∀ (l : Nat) (pre : List α) (x : α) (Y : Nat → Prop) (W : World) (K : Act → World → Prop), I pre Y W → Bd Y W → Y l → Y w.heap.size → (∀ a' W', I pre Y W' → Keep Y W W' → Ax x a' W' → K a' W') →
      assign.wpIn (Fence.wide.inRound l) (n - 1 - 1) Try.prog (Exit.then K (fun _ _ _ => False)) { tmps := (#[p].zip #[enc x]).foldl (fun t (p, v) => t.setIfInBounds p v) a.tmps, defers := [] } W)
    (hbody : ∀ (l : Nat) (pre : List α) (x : α) (a' : Act) (Y : Nat → Prop) (W : World), w.heap.size ≤ l → I pre Y W → Bd Y W → Ax x a' W → (pre ++ [x]) <+: zs → body.wpIn (Fence.wide.inRound l) (n - 1 - 1) Try.prog (LeftX I (pre ++ [x]) Y W) a' W)
    (hdone : ∀ (D : Nat) (Y : Nat → Prop) (W : World), w.heap.size ≤ D → I zs Y W → Bd Y W → Y D → W.heap[D]? = some (.deferred (some [])) → Q .normal { a with defers := { target := .collected D, args := #[] } :: a.defers } W) :
    (Code.rangeFunc g #[p] assign body).wpIn Fence.wide n Try.prog Q a w := by
  refine wpIn_rangeFunc fun fn hfn => ?_
  let R : LoopState → Option Code → Loop := fun st pe => { state := st, pending := pe, fn, tmps := a.tmps, params := #[p], assign, body, defers := w.heap.size }
  let V : World := (w.alloc (.deferred (some []))).alloc (.loop (R .ready none))
  have hVl : V.heap[w.heap.size + 1]? = some (.loop (R .ready none)) := by
    have := World.alloc_heap_new (w.alloc (.deferred (some []))) (.loop (R .ready none)); rwa [World.size_alloc] at this
  have hVd : V.heap[w.heap.size]? = some (.deferred (some [])) := (Below.heap_alloc _ _ _ (by simp)).trans (World.alloc_heap_new w _)
  have hVs : V.heap.size = w.heap.size + 2 := by simp [V]
  have hVb : Below w.heap.size w V := ((Below.refl _ w).alloc (Nat.le_refl _) _).alloc (by simp) _
  have hXn : Xn X0 w V = fun k => X0 k ∨ (k = w.heap.size ∨ k = w.heap.size + 1) := by
    funext k
    apply propext
    unfold Xn
    rw [hVs]
    constructor
    · rintro (h | ⟨h1, h2⟩)
      · exact .inl h
      · exact .inr (by omega)
    · rintro (h | h)
      · exact .inl h
      · exact .inr (by omega)
  have hput : ∀ {s : List α} {Y : Nat → Prop} {W : World} {o o' : Obj}, I s (fun k => Y k ∨ (k = w.heap.size ∨ k = w.heap.size + 1)) W → W.heap[w.heap.size + 1]? = some o → I s (fun k => Y k ∨ (k = w.heap.size ∨ k = w.heap.size + 1)) (W.putObj (w.heap.size + 1) o') := by
    intro s Y W o o' hs hl
    have h1 := hI s _ W (W.putObj (w.heap.size + 1) o') hs (Grow.putObj (.inr (.inr rfl)) W o')
    rwa [Xn.none World.putObj_size] at h1
  refine ⟨w.heap.size + 1, [{ target := .collected w.heap.size, args := #[] }], V, { target := .fn (.func gf) lb, args := #[.func (.yield (w.heap.size + 1)) #[] #[]] }, V, gf,
    #[.func (.yield (w.heap.size + 1)) #[] #[]] ++ lb, V, run_enterLoop_outer _ _ _ _ _, ?_, fun _ _ => trivial, ?_, fun _ => hn, ?_⟩
  · simp only [resolve, hg]
    simp [go_sem]
  · simp [invoke, go_sem, eg]
  refine (hH (w.heap.size + 1)
    (fun pre X W => I pre (fun k => X k ∨ (k = w.heap.size ∨ k = w.heap.size + 1)) W ∧ W.heap[w.heap.size + 1]? = some (.loop (R .ready none)) ∧ W.heap[w.heap.size]? = some (.deferred (some [])) ∧ ¬ X w.heap.size ∧ ¬ X (w.heap.size + 1))
    X0 V (fun k hk => ⟨hk, (hVb.block k (hX0 k hk).1).trans (hX0 k hk).2⟩) ?_ ?_
    ⟨by rw [← hXn]; exact hI _ _ _ _ h0 (Grow.of_below hVb _), hVl, hVd, fun h => by have := (hX0 _ h).1; omega, fun h => by have := (hX0 _ h).1; omega⟩ (fun k hk => by have := (hX0 k hk).1; omega)).mono ?_
  · -- what the function's own doings leave
    rintro s X W W' ⟨h1, h2, h3, h4, h5⟩ hg'
    have l2 := (Array.getElem?_eq_some_iff.1 h2).1
    have l3 := (Array.getElem?_eq_some_iff.1 h3).1
    refine ⟨?_, (hg'.block _ l2 h5).trans h2, (hg'.block _ l3 h4).trans h3, ?_, ?_⟩
    · have := hI s _ W W' h1 (hg'.wide (fun k hk => .inl hk))
      rwa [Xn.add (X := X) (fun k => k = w.heap.size ∨ k = w.heap.size + 1)] at this
    · rintro (h | ⟨h, _⟩)
      · exact h4 h
      · omega
    · rintro (h | ⟨h, _⟩)
      · exact h5 h
      · omega
  · -- one round
    rintro pre x Y W1 ⟨hi, hl, hd, n4, n5⟩ hbd hlen
    have l2 := (Array.getElem?_eq_some_iff.1 hl).1
    have l3 := (Array.getElem?_eq_some_iff.1 hd).1
    have hbd2 : Bd (fun k => Y k ∨ (k = w.heap.size ∨ k = w.heap.size + 1)) W1 := by
      rintro k (hk | rfl | rfl)
      · exact hbd k hk
      · exact l3
      · exact l2
    refine ⟨fn, _, assign, body, run_yield (P := Try.prog) (args := #[enc x]) hl rfl, roundIn_of_wpIn hfn (hassign _ pre x _ W1 _ hi hbd2 (.inr (.inr rfl)) (.inr (.inl rfl)) ?_)⟩
    intro a' U hUi hUk hUa
    have hl1 := (hUk.2 _ (.inr (.inr rfl))).trans hl
    have hd1 := (hUk.2 _ (.inr (.inl rfl))).trans hd
    have hlt := (Array.getElem?_eq_some_iff.1 hl1).1
    refine ⟨_, run_beginRound hl1 rfl, ?_⟩
    let Z : World := U.putObj (w.heap.size + 1) (.loop (R .busy none))
    have hl2 : Z.heap[w.heap.size + 1]? = some (.loop (R .busy none)) := World.putObj_heap_same hlt
    have hd2 : Z.heap[w.heap.size]? = some (.deferred (some [])) := (World.putObj_heap_other (by omega)).trans hd1
    have hZs : Z.heap.size = U.heap.size := World.putObj_size
    have hbdZ : Bd (fun k => Y k ∨ (k = w.heap.size ∨ k = w.heap.size + 1)) Z := fun k hk => by
      have := hbd2 k hk
      have := hUk.1
      omega
    refine wpIn_mono (hbody _ pre x a' _ Z (by omega) (hput hUi hl1) hbdZ (hAx _ _ _ _ _ _ hUa (by omega) hl1 rfl) hlen) ?_
    intro e a3 W3 hp
    cases e with
    | normal =>
      obtain ⟨hi3, hk3⟩ := hp
      have hl3 := (hk3.2 _ (.inr (.inr rfl))).trans hl2
      have hd3 := (hk3.2 _ (.inr (.inl rfl))).trans hd2
      refine ⟨_, _, run_endRound none hl3, rfl, ⟨hput hi3 hl3, World.putObj_heap_same (Array.getElem?_eq_some_iff.1 hl3).1, (World.putObj_heap_other (by omega)).trans hd3, n4, n5⟩, ?_, fun k hk => ?_⟩
      · have h1 := hUk.1
        have h3 := hk3.1
        rw [World.putObj_size]
        omega
      · have hne : k ≠ w.heap.size + 1 := fun e => n5 (e ▸ hk)
        exact (World.putObj_heap_other hne).trans ((hk3.2 k (.inl hk)).trans ((World.putObj_heap_other hne).trans (hUk.2 k (.inl hk))))
    | ret => exact hp.elim
    | exit id => exact hp.elim
    | goto t => exact hp.elim
    | panic ch => exact hp.elim
    | outgrown => exact hp.elim
  · -- behind the loop
    rintro e W2 ⟨⟨v, rfl⟩, Y, ⟨hi, hl, hd, n4, n5⟩, hbd⟩
    have l2 := (Array.getElem?_eq_some_iff.1 hl).1
    have l3 := (Array.getElem?_eq_some_iff.1 hd).1
    refine ⟨none, _, run_endLoop (P := Try.prog) hl (by simp [R]), hdone _ _ _ (Nat.le_refl _) (hput hi hl) (fun k hk => ?_) (.inr (.inl rfl)) ((World.putObj_heap_other (by omega)).trans hd)⟩
    rw [World.putObj_size]
    rcases hk with hk | rfl | rfl
    · exact hbd k hk
    · exact l3
    · exact l2
end Go.Proofs.Ythimnpiiehggnaa
/- A region, in a round of a loop over a function: where none of its operations defers, it is walked as outside of one, calls and all. Nothing of any function. -/
namespace Go.Proofs.Ythimnpiiehggnaa
open Go.RowKit Go.Shelf

theorem upon_round {F : Fence} {n : Nat} {P : Program} {o : Oper} {a : Act} {next : Act → World → Prop} {Q : Exit → Act → World → Prop} (l : Nat) {r : Result Next} (h : o.uponIn F n P a next Q r) : o.uponIn (F.inRound l) n P a next Q r := by
  cases r with
  | ok x w => cases x <;> exact h
  | halt x w => exact h
def noDefer : Op → Bool
  | .defer _ => false
  | _ => true
theorem eOpIn_round {F : Fence} {n : Nat} {P : Program} {ops : Array Oper} {Q : Exit → Act → World → Prop} {i : Nat} {K : Act → World → Prop} {a : Act} {w : World} (l : Nat) (hp : ∀ (j : Nat) o, ops[j]? = some o → noDefer o.op = true)
    (h : wpOpIn F n P ops Q i K a w) : wpOpIn (F.inRound l) n P ops Q i K a w := by
  unfold wpOpIn at h ⊢
  cases hi : ops[i]? with
  | none => rw [hi] at h; exact h
  | some o =>
    rw [hi] at h
    simp only at h ⊢
    have hpo := hp i o hi
    have hpd : ∀ c, o.op ≠ .defer c := fun c e => by rw [e] at hpo; cases hpo
    split
    · rename_i hw
      rw [if_pos hw] at h
      unfold Oper.wpIn at h ⊢
      refine ⟨h.1, ?_⟩
      have h2 := h.2
      rw [Oper.semAt_plain F _ _ hpd] at h2
      rw [Oper.semAt_plain (F.inRound l) _ _ hpd]
      exact upon_round l h2
    · rename_i hw
      rw [if_neg hw] at h
      exact h
theorem eAnyIn_round {F : Fence} {n : Nat} {P : Program} {md : Region.Mode} {ops : Array Oper} {Q : Exit → Act → World → Prop} (l : Nat) (hp : ∀ (j : Nat) o, ops[j]? = some o → noDefer o.op = true) :
    ∀ (fuel : Nat) (listed : Array Bool) (a : Act) (w : World), wpAnyIn F n P md ops Q fuel listed a w → wpAnyIn (F.inRound l) n P md ops Q fuel listed a w := by
  intro fuel
  induction fuel with
  | zero => intro listed a w h; exact h
  | succ fuel ih =>
    intro listed a w h
    exact ⟨h.1, fun i hi => wpOpIn_mono (fun a' w' h2 => ih _ _ _ h2) (eOpIn_round l hp (h.2 i hi))⟩
theorem noDefer_all {ops : Array Oper} (h : (ops.toList.all fun o => noDefer o.op) = true) : ∀ (j : Nat) o, ops[j]? = some o → noDefer o.op = true := fun j o hj => by
  have := List.all_eq_true.1 h o (by
    rw [← Array.getElem?_toList] at hj
    exact List.mem_of_getElem? hj)
  exact this
/-- A post that only the plain way out meets. -/
def OnlyW (Q : Exit → Act → World → Prop) : Exit → Act → World → Prop
  | .normal, a, w => Q .normal a w
  | _, _, _ => False
theorem onlyW_out (Q : Exit → Act → World → Prop) : ¬ LetsOut (OnlyW Q) := fun ⟨_, _, h⟩ => h
theorem upon_wide {n : Nat} {P : Program} {o : Oper} {a : Act} {next : Act → World → Prop} {Q : Exit → Act → World → Prop} {r : Result Next} (h : o.upon P a next Q r) : o.uponIn Fence.wide n P a next Q r := by
  cases r with
  | ok x w =>
    cases x with
    | value v => exact h
    | skip => exact h
    | defer d => exact h
    | enter f args => exact ⟨fun hd => absurd hd (by decide), callsIn_wide.2 h⟩
    | row r args => exact ⟨fun hd => absurd hd (by decide), fun c cs _ => let ⟨v, w', r, s⟩ := h c cs; ⟨v, w', r, stepsIn_wide.2 s⟩⟩
    | _ => exact h.elim
  | halt x w => cases x <;> exact h
theorem eOpIn_wide {n : Nat} {P : Program} {ops : Array Oper} {Q : Exit → Act → World → Prop} {i : Nat} {K : Act → World → Prop} {a : Act} {w : World} (hq : ¬ LetsOut Q)
    (h : wpOp P ops Q i K a w) : wpOpIn Fence.wide n P ops Q i K a w := by
  unfold wpOp at h
  unfold wpOpIn
  cases hi : ops[i]? with
  | none => rw [hi] at h; exact h
  | some o =>
    rw [hi] at h
    simp only at h ⊢
    split
    · rename_i hw
      rw [if_pos hw] at h
      rcases h with h | ⟨_, h⟩
      · exact ⟨fun _ _ => trivial, upon_wide h⟩
      · exact absurd h hq
    · rename_i hw
      rw [if_neg hw] at h
      exact ⟨fun _ _ => trivial, h⟩
theorem eAnyIn_wide {n : Nat} {P : Program} {md : Region.Mode} {ops : Array Oper} {Q : Exit → Act → World → Prop} (hq : ¬ LetsOut Q) :
    ∀ (fuel : Nat) (listed : Array Bool) (a : Act) (w : World), wpAny P md ops Q fuel listed a w → wpAnyIn Fence.wide n P md ops Q fuel listed a w := by
  intro fuel
  induction fuel with
  | zero => intro listed a w h; exact h
  | succ fuel ih =>
    intro listed a w h
    exact ⟨h.1, fun i hi => wpOpIn_mono (fun a' w' h2 => ih _ _ _ h2) (eOpIn_wide hq (h.2 i hi))⟩
/-- A region that draws, in a round of a loop in the widest fence, by the walk outside of one. -/
theorem region_round_held {n l id : Nat} {P : Program} {ops : Array Oper} {Q : Exit → Act → World → Prop} {S : World → Prop} {a : Act} {w : World} (hm : P.follows .mixedOrders = true) (hp : (ops.toList.all fun o => noDefer o.op) = true) (hS : S w.drew)
    (h : S w.drew → wpAnyH P .any ops (OnlyW Q) S ops.size (Array.replicate ops.size false) a w.drew) : (Code.region id ops true).wpIn (Fence.wide.inRound l) n P Q a w := by
  refine wpIn_mono (wpIn_region_any (Q := OnlyW Q) hm (eAnyIn_round l (noDefer_all hp) _ _ _ _ (eAnyIn_wide (onlyW_out Q) _ _ _ _ (wpAny_of_held _ _ _ _ (h hS))))) (fun e a w q => ?_)
  cases e <;> first | exact q | exact q.elim
end Go.Proofs.Ythimnpiiehggnaa
