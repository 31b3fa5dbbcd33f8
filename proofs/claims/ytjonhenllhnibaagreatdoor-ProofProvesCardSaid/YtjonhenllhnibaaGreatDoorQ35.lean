/- Texts of this seat, one behind the other: POwner, PRProve. -/
import Derived.Maps.AppendAt
import Derived.Test.YtjonhenllhnibaaGreatDoorQ13
import Derived.Test.YtjonhenllhnibaaGreatDoorQ16
import Derived.Test.YtjonhenllhnibaaGreatDoorQ17
import Derived.Test.YtjonhenllhnibaaGreatDoorQ18
import Derived.Test.YtjonhenllhnibaaGreatDoorQ21
import Derived.Test.YtjonhenllhnibaaGreatDoorQ28
import Derived.Test.YtjonhenllhnibaaGreatDoorQ29
/- The contracts of the reference's owner and members. -/
namespace Go.Proofs.YtjonhenllhnibaaGreatDoor
open Go.RowKit

/-- A place as the reference counts: the head is -1. -/
abbrev wi (q : Nat) : Value := .int .i64 ((q : Int) - 1)
set_option maxRecDepth 100000 in
set_option maxHeartbeats 4000000 in
theorem powner_any (lev q n cA cB : Nat) (A B : Option Addr) (H : List Nat) (w : World) (hB : VR vi w B H) (hl : H.length = n) (hq : q ≤ n) (hn : n ≤ 1024) (hlev : lev < 9) :
    Calls Tryz.prog 35 #[ytv A B n cA cB, .int .i64 ((q : Int) - 1), .int .i64 (lev : Int)] w fun e w' => e = .returned (wi (pown (9 :: H) lev q)) ∧ Below w.heap.size w w' := by
  have HR := Lib.hid (fun j W (hj : j < n) (hb : Below w.heap.size w W) => (hB.later hb) j (by omega))
  have HIS : Hid (∀ p, p ≤ q → (∀ i, p < i → i ≤ q → ¬ lev < (9 :: H).getD i 0) → lev < (9 :: H).getD p 0 → pown (9 :: H) lev q = p) := Lib.hid fun p h1 h2 h3 => pown_is h1 h3 h2
  have H0 : Hid (lev < (9 :: H).getD 0 0) := Lib.hid hlev
  have HS : Hid (∀ p, (9 :: H).getD (p + 1) 0 = H.getD p 0) := Lib.hid fun p => rfl
  clear hB hl
  generalize pown (9 :: H) lev q = R at *
  generalize 9 :: H = H9 at *
  have hb0 := ba (Below.refl w.heap.size w) (.cells #[.slice A n cA, .slice B n cB] 38)
  have hk0 := Blk.new w 38 #[.slice A n cA, .slice B n cB]
  go_enter Tryz.func35, Tryz.ntmps35
  go_wp2_with fail
  go_loopw [7] (fun iv wr => ∃ p : Nat, p ≤ q ∧ iv = .int .i64 ((p : Int) - 1) ∧ Hid (∀ i, p < i → i ≤ q → ¬ lev < H9.getD i 0) ∧ Hid (Blk wr w.heap.size 38 #[.slice A n cA, .slice B n cB]) ∧ Hid (Below w.heap.size w wr)) (fun i _ => (intOf i + 1).toNat)
  case atStart => exact ⟨q, Nat.le_refl _, rfl, Lib.hid (fun i h1 h2 => by omega), Lib.hid hk0, Lib.hid hb0⟩
  case round =>
    clear hb0 hk0
    obtain ⟨p, hp, rfl, HNO, HK, HB⟩ := hrel
    have k0 := HK.out.cell 0
    have k1 := HK.out.cell 1
    simp only [List.getElem?_toArray, List.getElem?_cons_zero, List.getElem?_cons_succ] at k0 k1
    cases p with
    | zero =>
      have HE := Lib.hid (HIS.out 0 hp HNO.out H0.out)
      go_wp2
      go_ret
      exact ⟨by rw [HE.out]; rfl, HB.out⟩
    | succ p =>
      have e0 : (((p + 1 : Nat)) : Int) - 1 = (p : Int) := by omega
      rw [e0]
      obtain ⟨g, off, rfl, d0⟩ := HR.out p wr (by omega) HB.out
      have HY : Hid (lev < H.getD p 0 → R = p + 1) := Lib.hid fun h => HIS.out (p + 1) hp HNO.out (by rw [HS.out]; exact h)
      have HN : Hid (¬ lev < H.getD p 0 → ∀ i, p < i → i ≤ q → ¬ lev < H9.getD i 0) := Lib.hid fun h i h1 h2 => by
        by_cases e : i = p + 1
        · rw [e, HS.out]; exact h
        · exact HNO.out i (by omega) h2
      generalize H.getD p 0 = y at d0 HY HN
      have i0 : (0 : Int) ≤ (p : Int) := by omega
      have i1 : (p : Int) < (n : Int) := by omega
      by_cases hy : lev < y
      · have HE := Lib.hid (HY.out hy)
        have hy1 : (lev : Int) < (y : Int) := by omega
        clear HY HN hy
        go_wp2
        go_ret
        refine ⟨?_, HB.out⟩
        rw [HE.out, wi, e0]
        rfl
      · have HN2 := Lib.hid (HN.out hy)
        have hy1 : ¬ (lev : Int) < (y : Int) := by omega
        clear HY HN hy
        go_wp2_with fail
        exact ⟨⟨p, by omega, by go_num, HN2, HK, HB⟩, by simp [intOf]; try omega⟩

set_option maxRecDepth 100000 in
set_option maxHeartbeats 8000000 in
theorem pmembers_any (lev q n cA cB : Nat) (A B : Option Addr) (H : List Nat) (w : World) (hB : VR vi w B H) (hl : H.length = n) (hq : q ≤ n) (hn : n ≤ 1024) (hlev : lev < 8) :
    Calls Tryz.prog 36 #[ytv A B n cA cB, .int .i64 ((q : Int) - 1), .int .i64 (lev : Int)] w fun e w' => ∃ X c, e = .returned (.slice X (yfrom (9 :: H) lev (pown (9 :: H) (lev + 1) q)).length c) ∧ w'.ownsRow w.heap.size 3 1 (.slice X (yfrom (9 :: H) lev (pown (9 :: H) (lev + 1) q)).length c) (yfrom (9 :: H) lev (pown (9 :: H) (lev + 1) q)).length ((yfrom (9 :: H) lev (pown (9 :: H) (lev + 1) q)).map wi) ∧ Below w.heap.size w w' := by
  obtain ⟨si, hsi, jy0, jy1, jy2⟩ := info_parts infoVI
  have HR := Lib.hid (fun j W (hj : j < n) (hb : Below w.heap.size w W) => (hB.later hb) j (by omega))
  have HO1 := Lib.hid (fun W (hb : Below w.heap.size w W) => powner_any (lev + 1) q n cA cB A B H W (hB.later hb) hl hq hn (by omega))
  rw [show (((lev + 1 : Nat)) : Int) = (lev : Int) + 1 by omega] at HO1
  have hqq : pown (9 :: H) (lev + 1) q ≤ n := Nat.le_trans (pown_le _ _ _) hq
  generalize pown (9 :: H) (lev + 1) q = r at *
  have HIS : Hid (∀ j, r + j ≤ n → (∀ i, i < j → ¬ lev + 1 < H.getD (r + i) 0) → (r + j = n ∨ lev + 1 < H.getD (r + j) 0) → yfrom (9 :: H) lev r = yfr (9 :: H) lev r j) := Lib.hid fun j hj h1 h2 => by
    have e : ∀ i, (9 :: H).getD (r + 1 + i) 0 = H.getD (r + i) 0 := fun i => by rw [show r + 1 + i = r + i + 1 by omega]; rfl
    exact yfrom_is (9 :: H) lev r j (by rw [List.length_cons]; omega) (fun i hi => by rw [e]; exact h1 i hi) (by rw [e, List.length_cons]; exact h2.imp (fun h3 => by omega) id)
  have HY : Hid (∀ j, lev < H.getD (r + j) 0 → yfr (9 :: H) lev r (j + 1) = yfr (9 :: H) lev r j ++ [r + j + 1]) := Lib.hid fun j h => by
    have e : (9 :: H).getD (r + 1 + j) 0 = H.getD (r + j) 0 := by rw [show r + 1 + j = r + j + 1 by omega]; rfl
    rw [yfr_yes (by rw [e]; exact h), show r + 1 + j = r + j + 1 by omega]
  have HN : Hid (∀ j, ¬ lev < H.getD (r + j) 0 → yfr (9 :: H) lev r (j + 1) = yfr (9 :: H) lev r j) := Lib.hid fun j h => by
    have e : (9 :: H).getD (r + 1 + j) 0 = H.getD (r + j) 0 := by rw [show r + 1 + j = r + j + 1 by omega]; rfl
    exact yfr_no (by rw [e]; exact h)
  have HC := Lib.hid (yfr_len (9 :: H) lev r)
  have HZ := Lib.hid (yfr_zero (9 :: H) lev r)
  generalize yfrom (9 :: H) lev r = T at *
  generalize yfr (9 :: H) lev r = G at *
  clear hB hl
  have hb0 := ba (Below.refl w.heap.size w) (.cells #[.slice A n cA, .slice B n cB] 38)
  have hk0 := Blk.new w 38 #[.slice A n cA, .slice B n cB]
  have k0 := hk0.cell 0
  have k1 := hk0.cell 1
  simp only [List.getElem?_toArray, List.getElem?_cons_zero, List.getElem?_cons_succ] at k0 k1
  go_enter Tryz.func36, Tryz.ntmps36
  go_wp2_with fail
  refine (HO1.out _ hb0).mono ?_
  rintro e w1 ⟨rfl, hb1⟩
  have HK1 := Lib.hid ((hk0.below hb1).alloc (.cells #[wi r] 3))
  have HB1 := Lib.hid (ba (bt hb0 hb1) (.cells #[wi r] 3))
  have HW1 : Hid ((w1.alloc (.cells #[wi r] 3)).ownsRow (w.heap.size + 1) 3 1 (.slice (some ⟨w1.heap.size, 0, none⟩) 1 1) 1 ((G 0).map wi)) := Lib.hid (by
    rw [HZ.out]
    exact yown_one (Blk.new w1 _ _) (by have := hb1.size; rw [World.size_alloc] at this; exact this))
  clear hb0 hk0 hb1 HO1 HZ k0 k1
  go_wp2_with fail
  have w0 : IntKind.i64.wrap ((r : Int) - 1 + 1) = (r : Int) := by rw [IntKind.wrap_i64]; omega
  generalize w1.alloc (.cells #[wi r] 3) = w2 at HK1 HB1 HW1 ⊢
  have hb0 := ba (Below.refl w.heap.size w) (.cells #[.slice A n cA, .slice B n cB] 38)
  go_loopw [8, 9] (fun ov iv wr => ∃ (j p m c : Nat) (X : Option Addr), r + j = p ∧ p ≤ n ∧ iv = .int .i64 (p : Int) ∧ ov = .slice X m c ∧ Hid (m = (G j).length) ∧ Hid (∀ i, i < j → ¬ lev + 1 < H.getD (r + i) 0) ∧ Hid (wr.ownsRow (w.heap.size + 1) 3 1 (.slice X m c) m ((G j).map wi)) ∧ Hid (Blk wr w.heap.size 38 #[.slice A n cA, .slice B n cB]) ∧ Hid (Below w.heap.size w wr)) (fun _ i _ => n - (intOf i).toNat)
  case atStart => exact ⟨0, r, 1, 1, _, Nat.add_zero _, hqq, by go_num, rfl, Lib.hid (by have := HW1.out.1; rw [List.length_map, Nat.mul_one] at this; exact this.symm), Lib.hid (fun i hi => absurd hi (Nat.not_lt_zero _)), HW1, HK1, HB1⟩
  case round =>
    clear HK1 HB1 HW1 w0 hb0
    obtain ⟨j, p, m, c, X, hp, hpn, rfl, rfl, HM, HNO, HO, HK, HB⟩ := hrel
    have HP := Lib.hid hp
    have hmn : m ≤ n + 1 := by have := (HC.out j).2; have := HM.out; omega
    have k0 := HK.out.cell 0
    have k1 := HK.out.cell 1
    simp only [List.getElem?_toArray, List.getElem?_cons_zero, List.getElem?_cons_succ] at k0 k1
    by_cases hlt : p < n
    · obtain ⟨g, off, rfl, d0⟩ := HR.out p wr hlt HB.out
      have HYj := HY.out j
      have HNj := HN.out j
      have HIj := HIS.out j (by omega) HNO.out
      have HNX : ¬ lev + 1 < H.getD p 0 → ∀ i, i < j + 1 → ¬ lev + 1 < H.getD (r + i) 0 := fun h i hi => by
        rcases Nat.lt_or_ge i j with h2 | h2
        · exact HNO.out i h2
        · obtain rfl : i = j := by omega
          rw [hp]
          exact h
      rw [hp] at HYj HNj HIj
      have HYj := Lib.hid HYj
      have HNj := Lib.hid HNj
      have HIj := Lib.hid HIj
      have HNX := Lib.hid HNX
      have i0 : (0 : Int) ≤ (p : Int) := by omega
      have i1 : (p : Int) < (n : Int) := by omega
      generalize H.getD p 0 = y at d0 HYj HNj HIj HNX
      by_cases hy : lev + 1 < y
      · have HE := Lib.hid (HIj.out (.inr hy))
        have hy1 : (lev : Int) + 1 < (y : Int) := by omega
        clear HYj HNj HIj HNX hy hp
        go_wp2
        go_ret
        refine ⟨X, c, by rw [HE.out, ← HM.out]; rfl, ?_, HB.out⟩
        rw [HE.out, ← HM.out]
        exact yown_base HO.out (by omega)
      · have HNX2 := Lib.hid (HNX.out hy)
        have hy1 : ¬ (lev : Int) + 1 < (y : Int) := by omega
        by_cases hh : lev < y
        · have HT2 := Lib.hid (HYj.out hh)
          have hh1 : (lev : Int) < (y : Int) := by omega
          have HM2 : Hid (m + 1 = (G (j + 1)).length) := Lib.hid (by rw [HT2.out, List.length_append, ← HM.out]; rfl)
          have hwi : wi (p + 1) = vi p := by simp [wi]
          clear HYj HNj HIj HNX hy hh hp
          have hownA := HO.out.alloc (.cells #[vi p] 3)
          have hnews := World.news_of_block (heap_alloc_new wr (.cells #[vi p] 3))
          have B3 := Lib.hid (ba HB.out (.cells #[vi p] 3))
          have K3 := Lib.hid (HK.out.alloc (.cells #[vi p] 3))
          have HSZ : Hid (w.heap.size + 1 ≤ (wr.alloc (.cells #[vi p] 3)).heap.size) := Lib.hid (by have := K3.out.lt; omega)
          go_wp2_with (at_builtin; refine wpList_append_own _ rfl _ _ 36 rfl (w.heap.size + 1) 3 si _ 1 8 Tryz.underlying36 hsi jy0 jy1 jy2 rfl (by decide) _ _ _ rfl hownA ⟨wr.heap.size, 0, none⟩ 1 1 [vi p] rfl rfl hnews (by simp [Value.oneCell']) (by unfold maxLen; omega) (by omega) HSZ.out ?_; intro v4 w5 hown5 hgrow5 _; obtain ⟨g6, c6, rfl⟩ := ownsRow_succ hown5)
          have B5 := Lib.hid (B3.out.grown hgrow5 B3.out.size (fun k e => by have := (hownA.lt k e).1; omega))
          have K5 : Hid (Blk w5 w.heap.size 38 #[.slice A n cA, .slice (some ⟨g, off, none⟩) n cB]) := Lib.hid ((hgrow5.block _ K3.out.lt (fun e => by have := (hownA.lt _ e.symm).1; omega)).trans K3.out)
          have W5 : Hid (w5.ownsRow (w.heap.size + 1) 3 1 (.slice (some ⟨g6, 0, none⟩) (m + 1) c6) (m + 1) ((G (j + 1)).map wi)) := Lib.hid (by rw [HT2.out, List.map_append, List.map_cons, hwi]; exact hown5)
          clear hown5 hgrow5 hnews hownA k0 k1
          go_wp2_with fail
          exact ⟨⟨j + 1, p + 1, m + 1, c6, _, by have := HP.out; omega, by omega, by go_num, rfl, HM2, HNX2, W5, K5, B5⟩, by simp [intOf]; omega⟩
        · have HT2 := Lib.hid (HNj.out hh)
          have hh1 : ¬ (lev : Int) < (y : Int) := by omega
          have HM2 : Hid (m = (G (j + 1)).length) := Lib.hid (by rw [HT2.out, ← HM.out])
          have W5 : Hid (wr.ownsRow (w.heap.size + 1) 3 1 (.slice X m c) m ((G (j + 1)).map wi)) := Lib.hid (by rw [HT2.out]; exact HO.out)
          clear HYj HNj HIj HNX hy hh hp
          go_wp2_with fail
          exact ⟨⟨j + 1, p + 1, m, c, X, by have := HP.out; omega, by omega, by go_num, rfl, HM2, HNX2, W5, HK, HB⟩, by simp [intOf]; omega⟩
    · obtain rfl : p = n := by omega
      have HE := Lib.hid (HIS.out j (by omega) HNO.out (.inl hp))
      clear hp
      go_wp2
      go_ret
      refine ⟨X, c, by rw [HE.out, ← HM.out]; rfl, ?_, HB.out⟩
      rw [HE.out, ← HM.out]
      exact yown_base HO.out (by omega)
end Go.Proofs.YtjonhenllhnibaaGreatDoor
/- The contract of the reference's Prove. -/
namespace Go.Proofs.YtjonhenllhnibaaGreatDoor
open Go.RowKit

/-- Two rows of texts that lie apart. -/
structure TQ (W : World) (base : Nat) (X : Option Addr) (n c : Nat) (L : List (List UInt8)) (Y : Option Addr) (m d : Nat) (M : List (List UInt8)) : Prop where
  row0 : W.ownsRow base 9 1 (.slice X n c) n (L.map sv)
  row1 : W.ownsRow base 9 1 (.slice Y m d) m (M.map sv)
  apart : PApart (.slice X n c) (.slice Y m d)
theorem TQ.below {W W' : World} {base n c m d : Nat} {X Y : Option Addr} {L M : List (List UInt8)} (h : TQ W base X n c L Y m d M) (hb : Below W.heap.size W W') : TQ W' base X n c L Y m d M := ⟨own_later h.row0 hb, own_later h.row1 hb, h.apart⟩
theorem TQ.put0 {W W' : World} {base n c m d g c' : Nat} {X Y : Option Addr} {L M : List (List UInt8)} {x : List UInt8} (h : TQ W base X n c L Y m d M) (h5 : W'.ownsRow base 9 1 (.slice (some ⟨g, 0, none⟩) (n + 1) c') (n + 1) (L.map sv ++ [sv x]))
    (hgr : W.grownBy W' (Value.slice X n c).ownBlock) (hat : (Value.slice (some ⟨g, 0, none⟩) (n + 1) c').ownBlock = (Value.slice X n c).ownBlock ∨ (Value.slice (some ⟨g, 0, none⟩) (n + 1) c').ownBlock = some W.heap.size) : TQ W' base (some ⟨g, 0, none⟩) (n + 1) c' (L ++ [x]) Y m d M :=
  ⟨by rw [List.map_append]; exact h5, gown_kept h.row1 (fun k hk => hgr.block k (h.row1.lt k hk).2 (fun e => h.apart k e.symm hk)), fun k hk hk2 => by
    rcases hat with e | e
    · rw [e] at hk
      exact h.apart k hk hk2
    · rw [e] at hk
      cases hk
      have := (h.row1.lt _ hk2).2
      omega⟩
theorem TQ.put1 {W W' : World} {base n c m d g c' : Nat} {X Y : Option Addr} {L M : List (List UInt8)} {x : List UInt8} (h : TQ W base X n c L Y m d M) (h5 : W'.ownsRow base 9 1 (.slice (some ⟨g, 0, none⟩) (m + 1) c') (m + 1) (M.map sv ++ [sv x]))
    (hgr : W.grownBy W' (Value.slice Y m d).ownBlock) (hat : (Value.slice (some ⟨g, 0, none⟩) (m + 1) c').ownBlock = (Value.slice Y m d).ownBlock ∨ (Value.slice (some ⟨g, 0, none⟩) (m + 1) c').ownBlock = some W.heap.size) : TQ W' base X n c L (some ⟨g, 0, none⟩) (m + 1) c' (M ++ [x]) :=
  ⟨gown_kept h.row0 (fun k hk => hgr.block k (h.row0.lt k hk).2 (fun e => h.apart k hk e.symm)), by rw [List.map_append]; exact h5, fun k hk hk2 => by
    rcases hat with e | e
    · rw [e] at hk2
      exact h.apart k hk hk2
    · rw [e] at hk2
      cases hk2
      have := (h.row0.lt _ hk).2
      omega⟩
theorem pfilt_yes {L : List Nat} {p : Nat → Bool} {k : Nat} (hk : k < L.length) (h : p (L.getD k 0) = true) : (L.take (k + 1)).filter p = (L.take k).filter p ++ [L.getD k 0] := by
  have e : L.getD k 0 = L[k] := by simp [List.getD, hk]
  rw [e] at h ⊢
  rw [List.take_succ_eq_append_getElem hk, List.filter_append, List.filter_cons, if_pos h]
  rfl
theorem pfilt_no {L : List Nat} {p : Nat → Bool} {k : Nat} (hk : k < L.length) (h : p (L.getD k 0) = false) : (L.take (k + 1)).filter p = (L.take k).filter p := by
  have e : L.getD k 0 = L[k] := by simp [List.getD, hk]
  rw [e] at h
  rw [List.take_succ_eq_append_getElem hk, List.filter_append, List.filter_cons, if_neg (by rw [h]; decide)]
  simp

set_option maxRecDepth 100000 in
set_option maxHeartbeats 16000000 in
theorem prprove_any (key : List UInt8) (q n cA cB : Nat) (A B : Option Addr) (Z : List ItL) (w : World) (hA : IR w A Z) (hB : VR vi w B (hsL key (ikeys Z))) (hz : Z.length = n) (hq : q ≤ n) (hn : n ≤ 64) (hx : ∀ x ∈ Z, x.1 < 18446744073709551616) (hs : ∀ x ∈ Z, x.2.length ≤ 4096) :
    Calls Tryz.prog 14 #[ytv A B n cA cB, .int .i64 ((q : Int) - 1)] w fun e w' => ∃ X c1 Y c2, e = .returned (pfv X 8 c1 Y 8 c2) ∧ LR w' X (pB key Z q 8) ∧ LR w' Y (pF key Z q 8) ∧ Below w.heap.size w w' := by
  obtain ⟨li, hli, jz0, jz1, jz2⟩ := info_parts infoSS
  obtain ⟨si, hsi, jy0, jy1, jy2⟩ := info_parts infoS
  have hh : (hsL key (ikeys Z)).length = n := by rw [hsL_len, ikeys_len, hz]
  have TO := Lib.hid (fun lev W (hlev : lev < 8) (hb : Below w.heap.size w W) => powner_any lev q n cA cB A B (hsL key (ikeys Z)) W (hB.later hb) hh hq (by omega) (by omega))
  have TM := Lib.hid (fun lev W (hlev : lev < 8) (hb : Below w.heap.size w W) => pmembers_any lev q n cA cB A B (hsL key (ikeys Z)) W (hB.later hb) hh hq (by omega) hlev)
  have TF := Lib.hid (fun lev p W (hlev : lev < 8) (hp : p ≤ n) (hb : Below w.heap.size w W) => yof_any n cA cB A B Z (hsL key (ikeys Z)) w hA hB hz hh (by omega) hx hs lev p W (by omega) hp hb)
  have HME : Hid (∀ lev, lev < 8 → ∀ j, (hj : j < (yfrom (9 :: hsL key (ikeys Z)) lev (pown (9 :: hsL key (ikeys Z)) (lev + 1) q)).length) → (yfrom (9 :: hsL key (ikeys Z)) lev (pown (9 :: hsL key (ikeys Z)) (lev + 1) q)).getD j 0 ≤ n) := Lib.hid fun lev hlev j hj => by
    have h1 := pown_le (9 :: hsL key (ikeys Z)) (lev + 1) q
    have h2 := pown_hi (H := 9 :: hsL key (ikeys Z)) (lev := lev + 1) (by show lev + 1 < 9; omega) q
    have h3 := yfrom_mem (H := 9 :: hsL key (ikeys Z)) (lev := lev) (q := pown (9 :: hsL key (ikeys Z)) (lev + 1) q) (i := (yfrom (9 :: hsL key (ikeys Z)) lev (pown (9 :: hsL key (ikeys Z)) (lev + 1) q)).getD j 0) (by rw [List.length_cons, hh]; omega) (by omega) (by
      simp only [List.getD, List.getElem?_eq_getElem hj, Option.getD_some]
      exact List.getElem_mem hj)
    have := h3.1
    rw [List.length_cons, hh] at this
    omega
  have HML : Hid (∀ lev, (yfrom (9 :: hsL key (ikeys Z)) lev (pown (9 :: hsL key (ikeys Z)) (lev + 1) q)).length ≤ 65) := Lib.hid fun lev => by
    have h1 := pown_le (9 :: hsL key (ikeys Z)) (lev + 1) q
    have := yfrom_len (9 :: hsL key (ikeys Z)) lev (pown (9 :: hsL key (ikeys Z)) (lev + 1) q) (by rw [List.length_cons, hh]; omega)
    rw [List.length_cons, hh] at this
    omega
  have HPB : Hid (∀ lev, pbefL key Z q lev = (((yfrom (9 :: hsL key (ikeys Z)) lev (pown (9 :: hsL key (ikeys Z)) (lev + 1) q)).filter fun i => decide (i < pown (9 :: hsL key (ikeys Z)) lev q)).map (ylab (ybase Z) (9 :: hsL key (ikeys Z)) lev))) := Lib.hid fun lev => rfl
  have HPF : Hid (∀ lev, paftL key Z q lev = (((yfrom (9 :: hsL key (ikeys Z)) lev (pown (9 :: hsL key (ikeys Z)) (lev + 1) q)).filter fun i => decide (pown (9 :: hsL key (ikeys Z)) lev q < i)).map (ylab (ybase Z) (9 :: hsL key (ikeys Z)) lev))) := Lib.hid fun lev => rfl
  have HGM := Lib.hid (pB_more key Z q)
  have HFM := Lib.hid (pF_more key Z q)
  have HG0 : Hid (pB key Z q 0 = [] ∧ pF key Z q 0 = [] ∧ (pB key Z q 8).length = 8 ∧ (pF key Z q 8).length = 8) := Lib.hid ⟨rfl, rfl, pB_len .., pF_len ..⟩
  clear hA hB hz hx hs hh
  generalize pB key Z q = GB at *
  generalize pF key Z q = GF at *
  generalize pbefL key Z q = PB at *
  generalize paftL key Z q = PA at *
  generalize 9 :: hsL key (ikeys Z) = H9 at *
  generalize ylab (ybase Z) H9 = FF at *
  obtain ⟨MM, hMM⟩ : ∃ MM : Nat → List Nat, ∀ lev, MM lev = yfrom H9 lev (pown H9 (lev + 1) q) := ⟨_, fun _ => rfl⟩
  simp only [← hMM] at TM HME HML HPB HPF
  clear hMM
  generalize hOO : pown H9 = OO at *
  clear hOO
  have hb0 := ba (ba (Below.refl w.heap.size w) (.cells #[.slice A n cA, .slice B n cB] 38)) (.cells #[.slice none 0 0, .slice none 0 0] 26)
  have hk0 := (Blk.new w 38 #[.slice A n cA, .slice B n cB]).alloc (.cells #[.slice none 0 0, .slice none 0 0] 26)
  have hk1 : Blk ((w.alloc (.cells #[.slice A n cA, .slice B n cB] 38)).alloc (.cells #[.slice none 0 0, .slice none 0 0] 26)) (w.heap.size + 1) 26 #[.slice none 0 0, .slice none 0 0] := Blk.newAt (by simp) _ _
  go_enter Tryz.func14, Tryz.ntmps14
  go_wp2_with fail
  have hbp := ba (Below.refl ((w.alloc (.cells #[.slice A n cA, .slice B n cB] 38)).alloc (.cells #[.slice none 0 0, .slice none 0 0] 26)).heap.size ((w.alloc (.cells #[.slice A n cA, .slice B n cB] 38)).alloc (.cells #[.slice none 0 0, .slice none 0 0] 26))) (.cells #[.slice none 0 0, .slice none 0 0] 26)
  have KT := Lib.hid (hk0.below hbp)
  have K4 := Lib.hid (hk1.below hbp)
  have Q0 := Lib.hid (PQ.start (bp := w.heap.size + 2) (base := w.heap.size + 3) (W := ((w.alloc (.cells #[.slice A n cA, .slice B n cB] 38)).alloc (.cells #[.slice none 0 0, .slice none 0 0] 26)).alloc (.cells #[.slice none 0 0, .slice none 0 0] 26)) (Blk.newAt (by simp) _ _) (by omega) (by simp))
  have B0 := Lib.hid (bt hb0 hbp)
  clear hb0 hk0 hk1 hbp
  generalize ((w.alloc (.cells #[.slice A n cA, .slice B n cB] 38)).alloc (.cells #[.slice none 0 0, .slice none 0 0] 26)).alloc (.cells #[.slice none 0 0, .slice none 0 0] 26) = w0 at KT K4 Q0 B0 ⊢
  go_loopw [6] (fun iv wr => ∃ (lev : Nat) (X Y : Option Addr) (c1 c2 : Nat) (Vs Us : List Value), lev ≤ 8 ∧ iv = .int .i64 (lev : Int) ∧ Hid (PQ wr (w.heap.size + 3) (w.heap.size + 2) X lev c1 Vs Y lev c2 Us (GB lev) (GF lev)) ∧ Hid (Blk wr (w.heap.size + 1) 26 #[.slice none 0 0, .slice none 0 0]) ∧ Hid (Blk wr w.heap.size 38 #[.slice A n cA, .slice B n cB]) ∧ Hid (Below w.heap.size w wr)) (fun i _ => 8 - (intOf i).toNat)
  case atStart => exact ⟨0, none, none, 0, 0, [], [], Nat.zero_le _, rfl, by rw [HG0.out.1, HG0.out.2.1]; exact Q0, K4, KT, B0⟩
  case round =>
    clear KT K4 Q0 B0
    obtain ⟨lev, X, Y, c1, c2, Vs, Us, hlev, rfl, HQ, HK4, HKT, HB⟩ := hrel
    rename World => wq
    by_cases hlt : lev < 8
    · have i1 : (lev : Int) < 8 := by omega
      have k0 := HKT.out.cell 0
      have k1 := HKT.out.cell 1
      simp only [List.getElem?_toArray, List.getElem?_cons_zero, List.getElem?_cons_succ] at k0 k1
      go_wp2_with fail
      refine (TO.out lev wq hlt HB.out).mono ?_
      rintro e w1 ⟨rfl, hb1⟩
      have hba := (ba (ba hb1 (.cells #[] 9)) (.cells #[] 9))
      have hs1 := hb1.size
      have T2 : TQ ((w1.alloc (.cells #[] 9)).alloc (.cells #[] 9)) wq.heap.size (some ⟨w1.heap.size, 0, none⟩) 0 0 [] (some ⟨w1.heap.size + 1, 0, none⟩) 0 0 [] :=
        ⟨own_nil ((Blk.new w1 9 #[]).alloc _) hs1, own_nil (Blk.newAt (by simp) 9 #[]) (by omega), fun k hk hk2 => by
          have h1 : w1.heap.size = k := Option.some.inj hk
          have h2 : w1.heap.size + 1 = k := Option.some.inj hk2
          omega⟩
      have kk := HKT.out.below hba
      have k0 := kk.cell 0
      have k1 := kk.cell 1
      simp only [List.getElem?_toArray, List.getElem?_cons_zero, List.getElem?_cons_succ] at k0 k1
      have HD2 := Lib.hid hba
      have HT2 := Lib.hid T2
      clear hba hb1 hs1 T2 kk
      go_wp2_with fail
      refine (TM.out lev _ hlt (bt HB.out HD2.out)).mono ?_
      rintro e w3 ⟨XM, cM, rfl, hoM, hb3⟩
      have HD3 := Lib.hid (HD2.out.trans (hb3.mono HD2.out.size))
      have HT3 := Lib.hid (HT2.out.below hb3)
      have HVM : Hid (w3.ownsRow wq.heap.size 3 1 (.slice XM (MM lev).length cM) (MM lev).length ((MM lev).map wi)) := Lib.hid (yown_base hoM HD2.out.size)
      have HEl := Lib.hid (HME.out lev hlt)
      have HLl := Lib.hid (HML.out lev)
      have HBl := Lib.hid (HPB.out lev)
      have HFl := Lib.hid (HPF.out lev)
      have HMl : Hid ((MM lev).take (MM lev).length = MM lev) := Lib.hid List.take_length
      have TFl := Lib.hid (fun p W (hp : p ≤ n) (hb : Below w.heap.size w W) => TF.out lev p W hlt hp hb)
      have HSZ : Hid (∀ k, k < (MM lev).length → ((MM lev).filter fun i => decide (i < OO lev q)).length ≤ 65) := Lib.hid fun k _ => Nat.le_trans (List.length_filter_le _ _) HLl.out
      clear hoM hb3 HD2 HT2 k0 k1 HSZ
      generalize MM lev = ML at *
      generalize OO lev q = ow at *
      obtain ⟨nm, hnm⟩ : ∃ nm, ML.length = nm := ⟨_, rfl⟩
      rw [hnm] at HEl HLl HMl HVM
      have HNM := Lib.hid hnm
      rw [hnm]
      clear hnm
      have hnm65 : nm ≤ 65 := HLl.out
      go_wp2_with fail
      go_loopw [8, 9, 28] (fun bv av iv wr2 => ∃ (j m1 e1 m2 e2 : Nat) (X1 X2 : Option Addr), j ≤ nm ∧ iv = .int .i64 (j : Int) ∧ bv = .slice X1 m1 e1 ∧ av = .slice X2 m2 e2 ∧ m1 + m2 ≤ j ∧ Hid (TQ wr2 wq.heap.size X1 m1 e1 (((ML.take j).filter fun i => decide (i < ow)).map (FF lev)) X2 m2 e2 (((ML.take j).filter fun i => decide (ow < i)).map (FF lev))) ∧ Hid (wr2.ownsRow wq.heap.size 3 1 (.slice XM nm cM) nm (ML.map wi)) ∧ Hid (Below wq.heap.size wq wr2)) (fun _ _ i _ => nm - (intOf i).toNat)
      case atStart => exact ⟨0, 0, 0, 0, 0, _, _, Nat.zero_le _, rfl, rfl, rfl, Nat.le_refl _, by simpa using HT3, HVM, HD3⟩
      case round =>
        clear HT3 HVM HD3
        obtain ⟨j, m1, e1, m2, e2, X1, X2, hj, rfl, rfl, rfl, hmm, HT, HV, HD⟩ := hrel
        by_cases hjm : j < nm
        · skip
          obtain ⟨gm, om, rfl, c0⟩ := (own_VR (q := wi) HV.out HNM.out) j (by rw [HNM.out]; exact hjm)
          have hvn := HEl.out j hjm
          have HY0 : Hid (ML.getD j 0 < ow → ((ML.take j).filter fun i => decide (i < ow)).map (FF lev) ++ [FF lev (ML.getD j 0)] = ((ML.take (j + 1)).filter fun i => decide (i < ow)).map (FF lev)) := Lib.hid fun h => by
            rw [pfilt_yes (by rw [HNM.out]; exact hjm) (by simpa using h), List.map_append]; rfl
          have HN0 : Hid (¬ ML.getD j 0 < ow → ((ML.take j).filter fun i => decide (i < ow)).map (FF lev) = ((ML.take (j + 1)).filter fun i => decide (i < ow)).map (FF lev)) := Lib.hid fun h => by
            rw [pfilt_no (by rw [HNM.out]; exact hjm) (by simpa using h)]
          have HY1 : Hid (ow < ML.getD j 0 → ((ML.take j).filter fun i => decide (ow < i)).map (FF lev) ++ [FF lev (ML.getD j 0)] = ((ML.take (j + 1)).filter fun i => decide (ow < i)).map (FF lev)) := Lib.hid fun h => by
            rw [pfilt_yes (by rw [HNM.out]; exact hjm) (by simpa using h), List.map_append]; rfl
          have HN1 : Hid (¬ ow < ML.getD j 0 → ((ML.take j).filter fun i => decide (ow < i)).map (FF lev) = ((ML.take (j + 1)).filter fun i => decide (ow < i)).map (FF lev)) := Lib.hid fun h => by
            rw [pfilt_no (by rw [HNM.out]; exact hjm) (by simpa using h)]
          have kk := HKT.out.below HD.out
          have k0 := kk.cell 0
          have k1 := kk.cell 1
          simp only [List.getElem?_toArray, List.getElem?_cons_zero, List.getElem?_cons_succ] at k0 k1
          clear kk
          generalize ML.getD j 0 = v at *
          have hm65 : m1 + m2 ≤ 65 := by have := HLl.out; omega
          have i2 : (0 : Int) ≤ (j : Int) := by omega
          have i3 : (j : Int) < (nm : Int) := by omega
          by_cases h1 : v < ow
          · have HEQ := Lib.hid (HY0.out h1)
            have HE2 := Lib.hid (HN1.out (by omega))
            rw [HE2.out] at HT
            have a1 : (v : Int) - 1 < (ow : Int) - 1 := by omega
            have a2 : ¬ (ow : Int) - 1 < (v : Int) - 1 := by omega
            clear HY0 HN0 HY1 HN1 h1
            go_wp2_with fail
            refine (TFl.out v _ hvn (bt HB.out HD.out)).mono ?_
            rintro e w5 ⟨rfl, hb5⟩
            have hA5 := ba hb5 (.cells #[sv (FF lev v)] 9)
            have hT5 := HT.out.below hA5
            have hI5 := own_later HV.out hA5
            have HD5 := Lib.hid (HD.out.trans (hA5.mono HD.out.size))
            have hnews := World.news_of_block (heap_alloc_new w5 (.cells #[sv (FF lev v)] 9))
            clear hA5 hb5 HT HV HD k0 k1 c0
            go_wp2_with (at_builtin; refine wpList_append_own_at _ rfl _ _ 43 rfl wq.heap.size 9 si _ 1 16 Tryz.underlying43 hsi jy0 jy1 jy2 rfl (by decide) _ _ _ rfl hT5.row0 ⟨w5.heap.size, 0, none⟩ 1 1 [sv (FF lev v)] rfl rfl hnews (by simp [Value.oneCell']) (by unfold maxLen; omega) (by omega) HD5.out.size ?_; intro v4 w6 hown6 hgrow6 _ hat6; obtain ⟨g6, c6, rfl⟩ := ownsRow_succ hown6)
            have HD6 := Lib.hid (HD5.out.grown hgrow6 HD5.out.size (fun q e => (hT5.row0.lt q e).1))
            have HI6 := Lib.hid (gown_kept hI5 (fun q hq => hgrow6.block q (hI5.lt q hq).2 (fun e => own_own_ne hI5 hT5.row0 (by decide) hq e.symm)))
            have hT6 := hT5.put0 hown6 hgrow6 hat6
            rw [HEQ.out] at hT6
            have HT6 := Lib.hid hT6
            clear hown6 hgrow6 hat6 hT5 hI5 HD5 hnews hT6
            go_wp2_with fail
            exact ⟨⟨j + 1, m1 + 1, c6, m2, e2, _, X2, by omega, by go_num, rfl, rfl, by omega, HT6, HI6, HD6⟩, by simp [intOf]; omega⟩
          · by_cases h2 : ow < v
            · have HEQ := Lib.hid (HY1.out h2)
              have HE2 := Lib.hid (HN0.out h1)
              rw [HE2.out] at HT
              have a1 : ¬ (v : Int) - 1 < (ow : Int) - 1 := by omega
              have a2 : (ow : Int) - 1 < (v : Int) - 1 := by omega
              clear HY0 HN0 HY1 HN1 h1 h2
              go_wp2_with fail
              refine (TFl.out v _ hvn (bt HB.out HD.out)).mono ?_
              rintro e w5 ⟨rfl, hb5⟩
              have hA5 := ba hb5 (.cells #[sv (FF lev v)] 9)
              have hT5 := HT.out.below hA5
              have hI5 := own_later HV.out hA5
              have HD5 := Lib.hid (HD.out.trans (hA5.mono HD.out.size))
              have hnews := World.news_of_block (heap_alloc_new w5 (.cells #[sv (FF lev v)] 9))
              clear hA5 hb5 HT HV HD k0 k1 c0
              go_wp2_with (at_builtin; refine wpList_append_own_at _ rfl _ _ 43 rfl wq.heap.size 9 si _ 1 16 Tryz.underlying43 hsi jy0 jy1 jy2 rfl (by decide) _ _ _ rfl hT5.row1 ⟨w5.heap.size, 0, none⟩ 1 1 [sv (FF lev v)] rfl rfl hnews (by simp [Value.oneCell']) (by unfold maxLen; omega) (by omega) HD5.out.size ?_; intro v4 w6 hown6 hgrow6 _ hat6; obtain ⟨g6, c6, rfl⟩ := ownsRow_succ hown6)
              have HD6 := Lib.hid (HD5.out.grown hgrow6 HD5.out.size (fun q e => (hT5.row1.lt q e).1))
              have HI6 := Lib.hid (gown_kept hI5 (fun q hq => hgrow6.block q (hI5.lt q hq).2 (fun e => own_own_ne hI5 hT5.row1 (by decide) hq e.symm)))
              have hT6 := hT5.put1 hown6 hgrow6 hat6
              rw [HEQ.out] at hT6
              have HT6 := Lib.hid hT6
              clear hown6 hgrow6 hat6 hT5 hI5 HD5 hnews hT6
              go_wp2_with fail
              exact ⟨⟨j + 1, m1, e1, m2 + 1, c6, X1, _, by omega, by go_num, rfl, rfl, by omega, HT6, HI6, HD6⟩, by simp [intOf]; omega⟩
            · have HE1 := Lib.hid (HN0.out h1)
              have HE2 := Lib.hid (HN1.out h2)
              rw [HE1.out, HE2.out] at HT
              have a1 : ¬ (v : Int) - 1 < (ow : Int) - 1 := by omega
              have a2 : ¬ (ow : Int) - 1 < (v : Int) - 1 := by omega
              clear HY0 HN0 HY1 HN1 h1 h2 k0 k1
              go_wp2_with fail
              exact ⟨⟨j + 1, m1, e1, m2, e2, X1, X2, by omega, by go_num, rfl, rfl, by omega, HT, HV, HD⟩, by simp [intOf]; omega⟩
        · obtain rfl : nm = j := by omega
          rw [HMl.out, ← HBl.out, ← HFl.out] at HT
          have hQa := HQ.out.below HD.out
          have hK4a := HK4.out.below HD.out
          have hKTa := HKT.out.below HD.out
          have HBa := Lib.hid (bt HB.out HD.out)
          have hbs : w.heap.size + 3 ≤ wq.heap.size := HQ.out.bs
          have hm1 : (PB lev).length = m1 := by have := HT.out.row0.1; rw [List.length_map, Nat.mul_one] at this; exact this
          have hm2 : (PA lev).length = m2 := by have := HT.out.row1.1; rw [List.length_map, Nat.mul_one] at this; exact this
          have hv1 : wr.ownsRow (w.heap.size + 3) 9 1 (.slice X1 m1 e1) (PB lev).length ((PB lev).map sv) := by rw [hm1]; exact yown_base HT.out.row0 hbs
          have hv2 : wr.ownsRow (w.heap.size + 3) 9 1 (.slice X2 m2 e2) m2 ((PA lev).map sv) := yown_base HT.out.row1 hbs
          clear HT HV HD HQ HK4 HKT HB hbs hjm hnm65
          have O2X := own_later hQa.row0 (ba (Below.refl wr.heap.size wr) (.cells #[.slice X1 m1 e1] 43))
          have hnX := World.news_of_block (heap_alloc_new wr (.cells #[.slice X1 m1 e1] 43))
          have hszX : w.heap.size + 3 ≤ (wr.alloc (.cells #[.slice X1 m1 e1] 43)).heap.size := by have := hQa.bs; simp; omega
          have hbX : Blk (wr.alloc (.cells #[.slice X1 m1 e1] 43)) (w.heap.size + 2) 26 #[.slice X lev c1, .slice Y lev c2] := hQa.blk.alloc (.cells #[.slice X1 m1 e1] 43)
          have qcX := hQa.blk.cell 0
          simp only [List.getElem?_toArray, List.getElem?_cons_zero] at qcX
          go_upto_region 17 with (at_builtin; refine wpList_append_own_at _ rfl _ _ 24 rfl (w.heap.size + 3) 43 li (.slice none 0 0) 1 24 Tryz.underlying24 hli jz0 jz1 jz2 rfl (by decide) _ _ _ rfl O2X ⟨wr.heap.size, 0, none⟩ 1 1 [.slice X1 m1 e1] rfl rfl hnX (by simp [Value.oneCell']) (by unfold maxLen; omega) (by omega) hszX ?_; intro v4 w6 hown6 hgrow6 _ hat6; obtain ⟨g6, c6, rfl⟩ := ownsRow_succ hown6; have hb6X := hbX.grown hgrow6 (fun e => by have := (O2X.lt _ e.symm).1; omega); have f6X := hb6X.frozen 0; have c6X := hb6X.cell 0)
          obtain ⟨hQN, hEN⟩ := hQa.put0 hv1 O2X hown6 hgrow6 (by
            rcases hat6 with e | e
            · exact .inl e.symm
            · exact .inr (by have h9 := Option.some.inj e; rw [World.size_alloc] at h9; exact h9))
          have hv2' := yown_far (g := w.heap.size + 2) (o := 0) (own_rows hv2 O2X hgrow6) (by omega) (.slice (some ⟨g6, 0, none⟩) (lev + 1) c6)
          have hQb := hQN
          rw [← HGM.out lev] at hQb
          have hK4b := (hEN (w.heap.size + 1) hK4a.lt (by omega) (fun e => by have := (hQa.row0.lt _ e).1; omega)).trans hK4a
          have hKTb := (hEN w.heap.size hKTa.lt (by omega) (fun e => by have := (hQa.row0.lt _ e).1; omega)).trans hKTa
          have HBb := Lib.hid (bs (b := w.heap.size + 2) (o := 0) ((ba HBa.out (.cells #[.slice X1 m1 e1] 43)).grown hgrow6 (ba HBa.out (.cells #[.slice X1 m1 e1] 43)).size (fun k e => by have := (hQa.row0.lt k e).1; omega)) (by omega) (.slice (some ⟨g6, 0, none⟩) (lev + 1) c6))
          clear hown6 hgrow6 hat6 hb6X f6X c6X hQN hEN O2X hnX hszX hbX qcX hv1 hv2 hQa hK4a hKTa HBa
          generalize w6.setCell ⟨w.heap.size + 2, 0, none⟩ (.slice (some ⟨g6, 0, none⟩) (lev + 1) c6) = w7 at *
          rw [← hm2] at hv2'
          have hv3 : w7.ownsRow (w.heap.size + 3) 9 1 (.slice X2 m2 e2) (PA lev).length ((PA lev).map sv) := by rw [← hm2]; exact hv2'
          have O2Y := own_later hQb.row1 (ba (Below.refl w7.heap.size w7) (.cells #[.slice X2 m2 e2] 43))
          have hnY := World.news_of_block (heap_alloc_new w7 (.cells #[.slice X2 m2 e2] 43))
          have hszY : w.heap.size + 3 ≤ (w7.alloc (.cells #[.slice X2 m2 e2] 43)).heap.size := by have := hQb.bs; simp; omega
          have hbY : Blk (w7.alloc (.cells #[.slice X2 m2 e2] 43)) (w.heap.size + 2) 26 #[.slice (some ⟨g6, 0, none⟩) (lev + 1) c6, .slice Y lev c2] := hQb.blk.alloc (.cells #[.slice X2 m2 e2] 43)
          have qcY := hQb.blk.cell 1
          simp only [List.getElem?_toArray, List.getElem?_cons_zero, List.getElem?_cons_succ] at qcY
          go_wp2_with (at_builtin; refine wpList_append_own_at _ rfl _ _ 24 rfl (w.heap.size + 3) 43 li (.slice none 0 0) 1 24 Tryz.underlying24 hli jz0 jz1 jz2 rfl (by decide) _ _ _ rfl O2Y ⟨w7.heap.size, 0, none⟩ 1 1 [.slice X2 m2 e2] rfl rfl hnY (by simp [Value.oneCell']) (by unfold maxLen; omega) (by omega) hszY ?_; intro v4 w9 hown9 hgrow9 _ hat9; obtain ⟨g9, c9, rfl⟩ := ownsRow_succ hown9; have hb9Y := hbY.grown hgrow9 (fun e => by have := (O2Y.lt _ e.symm).1; omega); have f9Y := hb9Y.frozen 1; have c9Y := hb9Y.cell 1)
          obtain ⟨hQN, hEN⟩ := hQb.put1 hv3 O2Y hown9 hgrow9 (by
            rcases hat9 with e | e
            · exact .inl e.symm
            · exact .inr (by have h9 := Option.some.inj e; rw [World.size_alloc] at h9; exact h9))
          rw [← HFM.out lev] at hQN
          have HQ9 := Lib.hid hQN
          have HK9 := Lib.hid ((hEN (w.heap.size + 1) (Blk.lt hK4b) (by omega) (fun e => by have := (hQb.row1.lt _ e).1; omega)).trans hK4b)
          have HKT9 := Lib.hid ((hEN w.heap.size (Blk.lt hKTb) (by omega) (fun e => by have := (hQb.row1.lt _ e).1; omega)).trans hKTb)
          have HB9 := Lib.hid (bs (b := w.heap.size + 2) (o := 1) ((ba HBb.out (.cells #[.slice X2 m2 e2] 43)).grown hgrow9 (ba HBb.out (.cells #[.slice X2 m2 e2] 43)).size (fun k e => by have := (hQb.row1.lt k e).1; omega)) (by omega) (.slice (some ⟨g9, 0, none⟩) (lev + 1) c9))
          clear hown9 hgrow9 hat9 hb9Y f9Y c9Y hQN hEN O2Y hnY hszY hbY qcY hv2' hv3 hQb hK4b hKTb HBb
          go_wp2_with fail
          exact ⟨⟨lev + 1, _, _, c6, c9, _, _, by omega, by go_num, HQ9, HK9, HKT9, HB9⟩, by simp [intOf]; omega⟩
    · obtain rfl : lev = 8 := by omega
      have k0 := HQ.out.blk.cell 0
      have k1 := HQ.out.blk.cell 1
      have r0 := HK4.out.cell 0
      have r1 := HK4.out.cell 1
      have f0 := HK4.out.frozen 0
      have f1 := HK4.out.frozen 1
      simp only [List.getElem?_toArray, List.getElem?_cons_zero, List.getElem?_cons_succ] at k0 k1 r0 r1
      have K1 := HK4.out.set_ 0 (.slice X 8 c1)
      have KK := Lib.hid (K1.set_ 1 (.slice Y 8 c2))
      have Q2 := (HQ.out.far (o := 0) (u := .slice X 8 c1) HK4.out (by decide) (by omega) (by omega)).far (o := 1) (u := .slice Y 8 c2) K1 (by decide) (by omega) (by omega)
      have L1 := Lib.hid (Q2.read0 HG0.out.2.2.1)
      have L2 := Lib.hid (Q2.read1 HG0.out.2.2.2)
      have BB := Lib.hid (bs (b := w.heap.size + 1) (o := 1) (bs (b := w.heap.size + 1) (o := 0) HB.out (by omega) (.slice X 8 c1)) (by omega) (.slice Y 8 c2))
      clear Q2 K1 HQ HK4 HKT HB
      go_wp2_with fail
      refine bodyPost_ret (pf1_result rfl KK.out) rfl ?_
      exact ⟨X, c1, Y, c2, rfl, L1.out, L2.out, BB.out⟩
end Go.Proofs.YtjonhenllhnibaaGreatDoor
