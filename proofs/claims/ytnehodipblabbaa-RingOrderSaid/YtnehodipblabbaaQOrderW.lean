/- The walk of RingOrder. -/
import Derived.Test.YtnehodipblabbaaQPush
import Derived.Test.YtnehodipblabbaaQApp
import Derived.Test.YtnehodipblabbaaQRPush
import Derived.Deep.RegionHeld3
import Derived.Deep.DeepCutAuto
import Derived.Deep.CutRange
namespace Go.Proofs.Ytnehodipblabbaa
open Go.RowKit

/-- What a round of the loop finds: the ring as it is, its texts in a row of their own, and that both rows lie apart. -/
structure OI (w : World) (n a q : Nat) (A : Option Addr) (c : Nat) (B : Option Addr) (d : Nat) (L : List (List UInt8)) (W : World) : Prop where
  qr : QR L a q
  qm : QM W A n c L
  own : W.ownsRow (w.heap.size + 1) 9 1 (.slice B q d) q ((qitems L a q).map sv)
  box : Blk W w.heap.size 24 (qcs A n c (a : Int) (q : Int))
  off : ∀ x : Addr, A = some x → x.block ≠ w.heap.size ∧ (Value.slice B q d).ownBlock ≠ some x.block
  b : Below w.heap.size w W
  size : w.heap.size + 1 ≤ W.heap.size
theorem OI.later {w W W' : World} {n a q : Nat} {A : Option Addr} {c : Nat} {B : Option Addr} {d : Nat} {L : List (List UInt8)} (h : OI w n a q A c B d L W) (hb : Below W.heap.size W W') : OI w n a q A c B d L W' :=
  ⟨h.qr, h.qm.later hb, own_later h.own hb, h.box.below hb, h.off, bt h.b hb, Nat.le_trans h.size hb.size⟩
/-- Behind a push: the ring and its texts anew. -/
theorem OI.more {w W W5 V W6 : World} {n a q : Nat} {A : Option Addr} {c : Nat} {B : Option Addr} {d : Nat} {L : List (List UInt8)} {s : List UInt8} {g c2 g6 c6 : Nat} (h : OI w n a q A c B d L W) (hq : q < n) (hn : n ≤ 70)
    (hb5 : Below W.heap.size W W5) (hQ : QS W5 g n c2 (qpush L a q s)) (hg : W.heap.size < g) (hV : Below W5.heap.size W5 V)
    (g1 : W6.ownsRow (w.heap.size + 1) 9 1 (.slice (some ⟨g6, 0, none⟩) (q + 1) c6) (q + 1) ((qitems L a q).map sv ++ [sv s])) (g2 : V.grownBy W6 (Value.slice B q d).ownBlock) (g3 : (Value.slice B q d).ownBlock = some g6 ∨ g6 = V.heap.size) :
    Blk W6 w.heap.size 24 (qcs A n c (a : Int) (q : Int)) ∧
    OI w n a (q + 1) (some ⟨g, 0, none⟩) c2 (some ⟨g6, 0, none⟩) c6 (qpush L a q s) (((W6.setCell ⟨w.heap.size, 0, none⟩ (.slice (some ⟨g, 0, none⟩) n c2)).setCell ⟨w.heap.size, 1, none⟩ (.int .i64 (a : Int))).setCell ⟨w.heap.size, 2, none⟩ (.int .i64 ((q + 1 : Nat) : Int))) := by
  have hWV : Below W.heap.size W V := bt hb5 hV
  have hown := own_later h.own hWV
  have hlt : ∀ k, (Value.slice B q d).ownBlock = some k → w.heap.size + 1 ≤ k ∧ k < W.heap.size := fun k hk => h.own.lt k hk
  have hsz := h.size
  have hgl := hQ.lt
  have hl : L.length = n := h.qm.len
  obtain ⟨p1, p2⟩ := h.qr.push (by omega) s
  have hbox : Blk W6 w.heap.size 24 (qcs A n c (a : Int) (q : Int)) := (g2.block _ (Nat.lt_of_lt_of_le h.box.lt hWV.size) (fun e => by have := (hlt _ e.symm).1; omega)).trans (h.box.below hWV)
  obtain ⟨cur, hc1, hc2⟩ := hQ.below hV
  have hQ6 : QS W6 g n c2 (qpush L a q s) := ⟨cur, (g2.block _ hc1.lt (fun e => by have := (hlt _ e.symm).2; omega)).trans hc1, hc2⟩
  have hB6 : Below w.heap.size w W6 := (bt h.b hWV).grown g2 (bt h.b hWV).size (fun k e => by have := (hlt k e).1; omega)
  have hne : g ≠ w.heap.size := by omega
  refine ⟨hbox, p1, (((hQ6.far (p := ⟨w.heap.size, 0, none⟩) hne _).far (p := ⟨w.heap.size, 1, none⟩) hne _).far (p := ⟨w.heap.size, 2, none⟩) hne _).qm hn, ?_, ((hbox.set_ 0 _).set_ 1 _).set_ 2 _, fun x hx => ?_, bs (bs (bs hB6 (Nat.le_refl _) _) (Nat.le_refl _) _) (Nat.le_refl _) _, ?_⟩
  · rw [p2, List.map_append]
    exact qown_far (qown_far (qown_far g1 (p := ⟨w.heap.size, 0, none⟩) (Nat.lt_succ_self _) _) (p := ⟨w.heap.size, 1, none⟩) (Nat.lt_succ_self _) _) (p := ⟨w.heap.size, 2, none⟩) (Nat.lt_succ_self _) _
  · cases hx
    refine ⟨hne, fun e => ?_⟩
    have e6 : g6 = g := by injection e
    rcases g3 with g3 | g3
    · have := (hlt _ g3).2; omega
    · have := hV.size; omega
  · have := g2.size
    have := hWV.size
    simp [World.setCell]
    omega
/-- A number brought into its range. -/
theorem qnorm (k : Int) (m : Nat) (hm : m ≤ 100) : ∃ (x : Int) (j : Nat), k.tmod ((m : Int) + 1) = x ∧ j ≤ m ∧ (x + (m : Int) + 1).tmod ((m : Int) + 1) = (j : Int) ∧ 0 ≤ x + (m : Int) + 1 ∧ -101 ≤ x ∧ x ≤ 101 := by
  have h1 := Int.tmod_lt_of_pos k (show (0 : Int) < (m : Int) + 1 by omega)
  have h2 : -((m : Int) + 1) < k.tmod ((m : Int) + 1) := by
    have := Int.lt_tmod_of_pos k (show (0 : Int) < (m : Int) + 1 by omega)
    omega
  have h3 : 0 ≤ k.tmod ((m : Int) + 1) + (m : Int) + 1 := by omega
  have h4 := Int.emod_nonneg (k.tmod ((m : Int) + 1) + (m : Int) + 1) (show ((m : Int) + 1) ≠ 0 by omega)
  have h5 := Int.emod_lt_of_pos (k.tmod ((m : Int) + 1) + (m : Int) + 1) (show (0 : Int) < (m : Int) + 1 by omega)
  refine ⟨_, ((k.tmod ((m : Int) + 1) + (m : Int) + 1) % ((m : Int) + 1)).toNat, rfl, ?_, ?_, h3, by omega, by omega⟩
  · generalize (k.tmod ((m : Int) + 1) + (m : Int) + 1) % ((m : Int) + 1) = r at h4 h5
    omega
  · rw [Int.tmod_eq_emod_of_nonneg h3]
    generalize (k.tmod ((m : Int) + 1) + (m : Int) + 1) % ((m : Int) + 1) = r at h4 h5
    omega
/-- What the law's end holds from call to call. -/
structure QU (wr W : World) (n bB bC gb cb gc cc u2 m2 : Nat) (L2 : List (List UInt8)) (A11 : Option Addr) (T : List (List UInt8)) : Prop where
  b : Below wr.heap.size wr W
  sb : Blk W bB 24 (qcs (some ⟨gb, 0, none⟩) n cb (u2 : Int) (m2 : Int))
  sc : Blk W bC 24 (qcs (some ⟨gc, 0, none⟩) n cc (u2 : Int) (m2 : Int))
  qb : QM W (some ⟨gb, 0, none⟩) n cb L2
  qc : QM W (some ⟨gc, 0, none⟩) n cc L2
  sr : SR W A11 T
theorem QU.later {wr W W' : World} {n bB bC gb cb gc cc u2 m2 : Nat} {L2 : List (List UInt8)} {A11 : Option Addr} {T : List (List UInt8)} (h : QU wr W n bB bC gb cb gc cc u2 m2 L2 A11 T) (hb : Below W.heap.size W W') : QU wr W' n bB bC gb cb gc cc u2 m2 L2 A11 T :=
  ⟨bt h.b hb, h.sb.below hb, h.sc.below hb, h.qb.later hb, h.qc.later hb, h.sr.later hb⟩

set_option maxRecDepth 100000 in
set_option maxHeartbeats 16000000 in
theorem qorder_bad (A : Option Addr) (n0 n c : Nat) (f m : Int) (B : Option Addr) (N1 M1 d1 : Nat) (k1 k2 : Int) (w : World)
    (HFew : Hid (∀ W, Calls Try.prog 6 #[qv A n0 c f m] W fun e w' => e = .returned (qv A n c f m) ∧ Below W.heap.size W w'))
    (hM1 : min N1 70 = M1)
    (hN1 : (N1 : Int) ≤ 9223372036854775807)
    (hd1 : N1 ≤ d1)
    (HAL : Hid (∀ W, Calls Try.prog 12 #[] W fun e w' => e = .returned (.bool true) ∧ Below W.heap.size W w'))
    (HIt : Hid (∀ W, Below w.heap.size w W → Calls Try.prog 15 #[qv A n c f m] W fun e w' => e = .returned (.tuple #[.slice none 0 0, .int .i64 1]) ∧ Below W.heap.size W w'))
    :
    Calls Try.prog 5 #[qv A n0 c f m, .slice B N1 d1, .int .i64 k1, .int .i64 k2] w fun e w' => e = .returned (.bool true) ∧ Below w.heap.size w w' := by
  have K0 := Lib.hid (qbox_blk w A n0 c f m).drew
  have HV := Lib.hid (qbox_below w A n0 c f m).drew
  have hcut := fun W => qcut_run B N1 d1 M1 (by omega) W
  have hmin : (if (70 : Int) < (N1 : Int) then (70 : Int) else (N1 : Int)) = (M1 : Int) := by split <;> omega
  have hmin2 : min (N1 : Int) 70 = (M1 : Int) := by omega
  have hM70 : M1 ≤ 70 := by omega
  clear hM1 hd1
  go_enter Try.func5, Try.ntmps5
  go_upto_region 1 with fail
  refine wp_region_held_drew (S := fun _ => True) (by kernel_rfl) trivial (fun hHeld => ?_)
  refine wpAnyH_take (i := 2) (oi := ⟨some 26, _, _, _, _, _⟩) (v := ?_) rfl (by kernel_rfl) (by kernel_rfl) (by kernel_rfl) (fun _ _ _ h => h) (Or.inl ⟨by rfl, ?_⟩) (by assumption) ?_
  rotate_left
  · (intro w9 hSw; (try dsimp only at hSw); go_simp; try with_reducible rfl)
  try simp only [Act.put, List.setIfInBounds_toArray, List.set_cons_zero, List.set_cons_succ]
  refine wpAnyH_take (i := 3) (oi := ⟨some 27, _, _, _, _, _⟩) (v := ?_) rfl (by kernel_rfl) (by kernel_rfl) (by kernel_rfl) (fun _ _ _ h => h) (Or.inl ⟨by rfl, ?_⟩) (by assumption) ?_
  rotate_left
  · (intro w9 hSw; (try dsimp only at hSw); go_simp; try with_reducible rfl)
  try simp only [Act.put, List.setIfInBounds_toArray, List.set_cons_zero, List.set_cons_succ]
  refine wpAnyH_take (i := 4) (oi := ⟨some 28, _, _, _, _, _⟩) (v := ?_) rfl (by kernel_rfl) (by kernel_rfl) (by kernel_rfl) (fun _ _ _ h => h) (Or.inl ⟨by rfl, ?_⟩) (by assumption) ?_
  rotate_left
  · (intro w9 hSw; (try dsimp only at hSw); go_simp; try with_reducible rfl)
  try simp only [Act.put, List.setIfInBounds_toArray, List.set_cons_zero, List.set_cons_succ]
  refine wpAnyH_take (i := 5) (oi := ⟨some 29, _, _, _, _, _⟩) (v := .int .i64 (M1 : Int)) rfl (by kernel_rfl) (by kernel_rfl) (by kernel_rfl) (fun _ _ _ h => h) (Or.inl ⟨by rfl, ?_⟩) (by assumption) ?_
  · (intro w9 hSw; (try dsimp only at hSw); go_simp)
  try simp only [Act.put, List.setIfInBounds_toArray, List.set_cons_zero, List.set_cons_succ]
  refine wpAnyH_take (i := 6) (oi := ⟨some 30, _, _, _, _, _⟩) (v := .slice B M1 d1) rfl (by kernel_rfl) (by kernel_rfl) (by kernel_rfl) (fun _ _ _ h => h) (Or.inl ⟨by rfl, ?_⟩) (by assumption) ?_
  · (intro w9 hSw; (try dsimp only at hSw); go_simp)
  try simp only [Act.put, List.setIfInBounds_toArray, List.set_cons_zero, List.set_cons_succ]
  refine wpAnyH_ready (rs := [0]) (by kernel_rfl) (by simp) ?_
  refine AllReadyH.cons (o := ⟨some 24, _, _, _, _, _⟩) rfl (fun K9 hK9 => ?_) AllReadyH.nil
  first | (have hx := qcells (K0.out.below hb1); obtain ⟨⟨x0, x1, x2⟩, _⟩ := hx) | (have hx := qcells K0.out; obtain ⟨⟨x0, x1, x2⟩, _⟩ := hx)
  go_simp
  clear x0 x1 x2
  refine hK9.out _ _ ?_ (fun hHeld => ?_)
  · trivial
  clear hK9 K9
  try simp only [Act.put, List.setIfInBounds_toArray, List.set_cons_zero, List.set_cons_succ]
  refine wpAnyH_ready (rs := [1]) (by kernel_rfl) (by simp) ?_
  refine AllReadyH.cons (o := ⟨some 25, _, _, _, _, _⟩) rfl (fun K9 hK9 => ?_) AllReadyH.nil
  go_simp; go_at_call 6
  refine (HFew.out _).mono ?_
  rintro e w1 ⟨rfl, hb1⟩
  refine hK9.out _ _ ?_ (fun hHeld => ?_)
  · trivial
  clear hK9 K9
  try simp only [Act.put, List.setIfInBounds_toArray, List.set_cons_zero, List.set_cons_succ]
  refine wpAnyH_ready (rs := [7]) (by kernel_rfl) (by simp) ?_
  refine AllReadyH.cons (o := ⟨none, _, _, _, _, _⟩) rfl (fun K9 hK9 => ?_) AllReadyH.nil
  have Ka := K0.out.below hb1; have Hb := bt HV.out hb1; have Kc := ((Ka.set_ 0 (.slice A n c)).set_ 1 (.int .i64 f)).set_ 2 (.int .i64 m); have Hc := bs (bs (bs Hb (b := w.heap.size) (o := 0) (Nat.le_refl _) (.slice A n c)) (b := w.heap.size) (o := 1) (Nat.le_refl _) (.int .i64 f)) (b := w.heap.size) (o := 2) (Nat.le_refl _) (.int .i64 m); obtain ⟨⟨x0, x1, x2⟩, f0, f1, f2⟩ := qcells Ka
  go_simp
  clear f0 f1 f2 x0 x1 x2 Ka Hb
  refine hK9.out _ _ ?_ (fun hHeld => ?_)
  · trivial
  clear hK9 K9
  try simp only [Act.put]
  refine wpAnyH_take (i := 8) (oi := ⟨some 1, _, _, _, _, _⟩) (v := ?_) rfl (by kernel_rfl) (by kernel_rfl) (by kernel_rfl) (fun _ _ _ h => h) (Or.inl ⟨by rfl, ?_⟩) (by assumption) ?_
  rotate_left
  · (intro w9 hSw; (try dsimp only at hSw); go_simp; try with_reducible rfl)
  try simp only [Act.put, List.setIfInBounds_toArray, List.set_cons_zero, List.set_cons_succ]
  refine wpAnyH_done (by kernel_rfl) ?_ _
  have B2 := Lib.hid Hc
  have K2 := Lib.hid Kc
  clear Hc Kc hHeld hb1 hcut hmin hmin2 K0 HV HFew hN1
  generalize ((w1.setCell ⟨w.heap.size, 0, none⟩ (.slice A n c)).setCell ⟨w.heap.size, 1, none⟩ (.int .i64 f)).setCell ⟨w.heap.size, 2, none⟩ (.int .i64 m) = w2 at B2 K2 ⊢
  obtain ⟨⟨q0, q1, q2⟩, _⟩ := qcells K2.out
  go_wp2_with fail
  refine (HIt.out _ B2.out).mono ?_
  rintro e w3 ⟨rfl, hb3⟩
  have B3 := Lib.hid (bt B2.out hb3)
  clear hb3 B2 K2 q0 q1 q2
  go_wp2_with fail
  refine (HAL.out _).mono ?_
  rintro e w4 ⟨rfl, hb4⟩
  go_wp2
  go_ret
  exact ⟨rfl, bt B3.out hb4⟩

set_option maxRecDepth 100000 in
set_option maxHeartbeats 16000000 in
theorem qorder_good (A : Option Addr) (n0 n c : Nat) (a b : Nat) (L X : List (List UInt8)) (B : Option Addr) (N1 M1 d1 : Nat) (k1 k2 : Int) (w : World)
    (HFew : Hid (∀ W, Calls Try.prog 6 #[qv A n0 c (a : Int) (b : Int)] W fun e w' => e = .returned (qv A n c (a : Int) (b : Int)) ∧ Below W.heap.size W w'))
    (hM1 : min N1 70 = M1)
    (hN1 : (N1 : Int) ≤ 9223372036854775807)
    (hd1 : N1 ≤ d1)
    (HAL : Hid (∀ W, Calls Try.prog 12 #[] W fun e w' => e = .returned (.bool true) ∧ Below W.heap.size W w'))
    (hn : n ≤ 64)
    (hn1 : 1 ≤ n)
    (HQM : Hid (QM w A n c L ∧ QR L a b ∧ ∀ x : Addr, A = some x → x.block < w.heap.size))
    (HIt : Hid (∀ W A c f q L, QM W A n c L → QR L f q → Calls Try.prog 15 #[qv A n c (f : Int) (q : Int)] W fun e w' => ∃ A' c', e = .returned (.tuple #[.slice A' q c', .int .i64 0]) ∧ w'.ownsRow W.heap.size 9 1 (.slice A' q c') q ((qitems L f q).map sv) ∧ Below W.heap.size W w'))
    (HPy : Hid (∀ W A c f q L s, QM W A n c L → QR L f q → q < n → Calls Try.prog 13 #[qv A n c (f : Int) (q : Int), sv s] W fun e w' => ∃ g c', e = .returned (.tuple #[qv (some ⟨g, 0, none⟩) n c' (f : Int) ((q + 1 : Nat) : Int), .int .i64 0]) ∧ QS w' g n c' (qpush L f q s) ∧ W.heap.size < g ∧ Below W.heap.size W w'))
    (HPf : Hid (∀ W A c f L s, QM W A n c L → QR L f n → Calls Try.prog 13 #[qv A n c (f : Int) (n : Int), sv s] W fun e w' => e = .returned (.tuple #[qv none 0 0 0 0, .int .i64 6]) ∧ Below W.heap.size W w'))
    (HDr : Hid (∀ W A c f q k L, QM W A n c L → QR L f q → k ≤ q → Calls Try.prog 14 #[qv A n c (f : Int) (q : Int), .int .i64 (k : Int)] W fun e w' => ∃ g c', e = .returned (.tuple #[qv (some ⟨g, 0, none⟩) n c' ((qs n f k : Nat) : Int) ((q - k : Nat) : Int), .int .i64 0]) ∧ QM w' (some ⟨g, 0, none⟩) n c' (qdrop L f k) ∧ Below W.heap.size W w'))
    (HRt : Hid (∀ W A c f q L, QM W A n c L → QR L f q → Calls Try.prog 8 #[qv A n c (f : Int) (q : Int)] W fun e w' => e = .returned (.bool true) ∧ Below W.heap.size W w'))
    (HSm : Hid (∀ W A c A' c' f q L, QM W A n c L → QM W A' n c' L → Calls Try.prog 11 #[qv A n c f q, qv A' n c' f q] W fun e w' => e = .returned (.bool true) ∧ Below W.heap.size W w'))
    (HTx : Hid (∀ W A c A' c' m T, SR W A T → SR W A' T → T.length = m → m ≤ 64 → Calls Try.prog 16 #[.slice A m c, .slice A' m c'] W fun e w' => e = .returned (.bool true) ∧ Below W.heap.size W w'))
    (HX : Hid (SR w B X ∧ X.length = M1))
    :
    Calls Try.prog 5 #[qv A n0 c (a : Int) (b : Int), .slice B N1 d1, .int .i64 k1, .int .i64 k2] w fun e w' => e = .returned (.bool true) ∧ Below w.heap.size w w' := by
  obtain ⟨ti, hti, hz0, hz1, hz2⟩ := info_parts infoS
  have K0 := Lib.hid (qbox_blk w A n0 c (a : Int) (b : Int)).drew
  have HV := Lib.hid (qbox_below w A n0 c (a : Int) (b : Int)).drew
  have hcut := fun W => qcut_run B N1 d1 M1 (by omega) W
  have hmin : (if (70 : Int) < (N1 : Int) then (70 : Int) else (N1 : Int)) = (M1 : Int) := by split <;> omega
  have hmin2 : min (N1 : Int) 70 = (M1 : Int) := by omega
  have hM70 : M1 ≤ 70 := by omega
  clear hM1 hd1
  go_enter Try.func5, Try.ntmps5
  go_upto_region 1 with fail
  refine wp_region_held_drew (S := fun _ => True) (by kernel_rfl) trivial (fun hHeld => ?_)
  refine wpAnyH_take (i := 2) (oi := ⟨some 26, _, _, _, _, _⟩) (v := ?_) rfl (by kernel_rfl) (by kernel_rfl) (by kernel_rfl) (fun _ _ _ h => h) (Or.inl ⟨by rfl, ?_⟩) (by assumption) ?_
  rotate_left
  · (intro w9 hSw; (try dsimp only at hSw); go_simp; try with_reducible rfl)
  try simp only [Act.put, List.setIfInBounds_toArray, List.set_cons_zero, List.set_cons_succ]
  refine wpAnyH_take (i := 3) (oi := ⟨some 27, _, _, _, _, _⟩) (v := ?_) rfl (by kernel_rfl) (by kernel_rfl) (by kernel_rfl) (fun _ _ _ h => h) (Or.inl ⟨by rfl, ?_⟩) (by assumption) ?_
  rotate_left
  · (intro w9 hSw; (try dsimp only at hSw); go_simp; try with_reducible rfl)
  try simp only [Act.put, List.setIfInBounds_toArray, List.set_cons_zero, List.set_cons_succ]
  refine wpAnyH_take (i := 4) (oi := ⟨some 28, _, _, _, _, _⟩) (v := ?_) rfl (by kernel_rfl) (by kernel_rfl) (by kernel_rfl) (fun _ _ _ h => h) (Or.inl ⟨by rfl, ?_⟩) (by assumption) ?_
  rotate_left
  · (intro w9 hSw; (try dsimp only at hSw); go_simp; try with_reducible rfl)
  try simp only [Act.put, List.setIfInBounds_toArray, List.set_cons_zero, List.set_cons_succ]
  refine wpAnyH_take (i := 5) (oi := ⟨some 29, _, _, _, _, _⟩) (v := .int .i64 (M1 : Int)) rfl (by kernel_rfl) (by kernel_rfl) (by kernel_rfl) (fun _ _ _ h => h) (Or.inl ⟨by rfl, ?_⟩) (by assumption) ?_
  · (intro w9 hSw; (try dsimp only at hSw); go_simp)
  try simp only [Act.put, List.setIfInBounds_toArray, List.set_cons_zero, List.set_cons_succ]
  refine wpAnyH_take (i := 6) (oi := ⟨some 30, _, _, _, _, _⟩) (v := .slice B M1 d1) rfl (by kernel_rfl) (by kernel_rfl) (by kernel_rfl) (fun _ _ _ h => h) (Or.inl ⟨by rfl, ?_⟩) (by assumption) ?_
  · (intro w9 hSw; (try dsimp only at hSw); go_simp)
  try simp only [Act.put, List.setIfInBounds_toArray, List.set_cons_zero, List.set_cons_succ]
  refine wpAnyH_ready (rs := [0]) (by kernel_rfl) (by simp) ?_
  refine AllReadyH.cons (o := ⟨some 24, _, _, _, _, _⟩) rfl (fun K9 hK9 => ?_) AllReadyH.nil
  first | (have hx := qcells (K0.out.below hb1); obtain ⟨⟨x0, x1, x2⟩, _⟩ := hx) | (have hx := qcells K0.out; obtain ⟨⟨x0, x1, x2⟩, _⟩ := hx)
  go_simp
  clear x0 x1 x2
  refine hK9.out _ _ ?_ (fun hHeld => ?_)
  · trivial
  clear hK9 K9
  try simp only [Act.put, List.setIfInBounds_toArray, List.set_cons_zero, List.set_cons_succ]
  refine wpAnyH_ready (rs := [1]) (by kernel_rfl) (by simp) ?_
  refine AllReadyH.cons (o := ⟨some 25, _, _, _, _, _⟩) rfl (fun K9 hK9 => ?_) AllReadyH.nil
  go_simp; go_at_call 6
  refine (HFew.out _).mono ?_
  rintro e w1 ⟨rfl, hb1⟩
  refine hK9.out _ _ ?_ (fun hHeld => ?_)
  · trivial
  clear hK9 K9
  try simp only [Act.put, List.setIfInBounds_toArray, List.set_cons_zero, List.set_cons_succ]
  refine wpAnyH_ready (rs := [7]) (by kernel_rfl) (by simp) ?_
  refine AllReadyH.cons (o := ⟨none, _, _, _, _, _⟩) rfl (fun K9 hK9 => ?_) AllReadyH.nil
  have Ka := K0.out.below hb1; have Hb := bt HV.out hb1; have Kc := ((Ka.set_ 0 (.slice A n c)).set_ 1 (.int .i64 (a : Int))).set_ 2 (.int .i64 (b : Int)); have Hc := bs (bs (bs Hb (b := w.heap.size) (o := 0) (Nat.le_refl _) (.slice A n c)) (b := w.heap.size) (o := 1) (Nat.le_refl _) (.int .i64 (a : Int))) (b := w.heap.size) (o := 2) (Nat.le_refl _) (.int .i64 (b : Int)); obtain ⟨⟨x0, x1, x2⟩, f0, f1, f2⟩ := qcells Ka
  go_simp
  clear f0 f1 f2 x0 x1 x2 Ka Hb
  refine hK9.out _ _ ?_ (fun hHeld => ?_)
  · trivial
  clear hK9 K9
  try simp only [Act.put]
  refine wpAnyH_take (i := 8) (oi := ⟨some 1, _, _, _, _, _⟩) (v := ?_) rfl (by kernel_rfl) (by kernel_rfl) (by kernel_rfl) (fun _ _ _ h => h) (Or.inl ⟨by rfl, ?_⟩) (by assumption) ?_
  rotate_left
  · (intro w9 hSw; (try dsimp only at hSw); go_simp; try with_reducible rfl)
  try simp only [Act.put, List.setIfInBounds_toArray, List.set_cons_zero, List.set_cons_succ]
  refine wpAnyH_done (by kernel_rfl) ?_ _
  have B2 := Lib.hid Hc
  have K2 := Lib.hid Kc
  clear Hc Kc hHeld hb1 hcut hmin hmin2 K0 HV HFew hN1
  generalize ((w1.setCell ⟨w.heap.size, 0, none⟩ (.slice A n c)).setCell ⟨w.heap.size, 1, none⟩ (.int .i64 (a : Int))).setCell ⟨w.heap.size, 2, none⟩ (.int .i64 (b : Int)) = w2 at B2 K2 ⊢
  obtain ⟨⟨q0, q1, q2⟩, _⟩ := qcells K2.out
  go_wp2_with fail
  have HQ2 : Hid (QM w2 A n c L ∧ QR L a b) := Lib.hid ⟨HQM.out.1.later B2.out, HQM.out.2.1⟩
  refine (HIt.out _ _ _ _ _ _ HQ2.out.1 HQ2.out.2).mono ?_
  rintro e w3 ⟨A3, c3, rfl, hown3, hb3⟩
  have hz3 : w.heap.size + 1 ≤ w3.heap.size := Nat.le_trans K2.out.lt hb3.size
  have hba := ba (Below.refl w3.heap.size w3) (.cells #[] 9)
  have hbn : b ≤ n := by have := HQ2.out.2.many; rw [HQ2.out.1.len] at this; exact this
  have hnil : (w3.alloc (.cells #[] 9)).ownsRow (w.heap.size + 1) 9 1 (.slice (some ⟨w3.heap.size, 0, none⟩) 0 0) 0 [] := qown_nil (Blk.new w3 _ _) hz3
  obtain ⟨B5, d5, w5, hrun, hown5, hgr5⟩ := qappend_row (d := c3) hnil ((own_SR' hown3 (qitems_len _ _ _)).later hba) (qitems_len L a b) (by omega) (by simp; omega)
  rw [Nat.zero_add] at hrun hown5
  rw [List.nil_append] at hown5
  have hblk : ∀ k, k < w3.heap.size → w5.heap[k]? = w3.heap[k]? := fun k hk => (hgr5.block k (Nat.lt_of_lt_of_le hk hba.size) (fun e => by injection e with e; have e9 : k = w3.heap.size := e; omega)).trans (hba.block k hk)
  have hb5 : Below w3.heap.size w3 w5 := hba.grown hgr5 hba.size (fun k e => by cases e; exact Nat.le_refl _)
  have HO : Hid (∃ L', OI w n a b A c B5 d5 L' w5) := Lib.hid ⟨L, HQ2.out.2, (HQ2.out.1.later hb3).later hb5, hown5, (K2.out.below hb3).below hb5, fun x hx => ⟨by have := HQM.out.2.2 x hx; omega, fun e => by have := (hown5.lt _ e).1; have := HQM.out.2.2 x hx; omega⟩, bt (bt B2.out hb3) hb5, Nat.le_trans hz3 hb5.size⟩
  clear hown3 hb3 hba hnil hown5 hgr5 hblk hb5 HQ2 B2 K2 q0 q1 q2 hz3
  go_wp2_with (at_builtin; have hrun2 := hrun; clear hrun; refine Lib.wpList_append_run _ rfl _ _ 22 22 rfl (.slice (some ⟨w3.heap.size, 0, none⟩) 0 0) (.slice A3 b c3) rfl rfl _ _ hrun2 ?_; clear hrun2)
  go_loopw [11, 49] (fun ov jv wr => ∃ (j q c' d' : Nat) (A' B' : Option Addr), j ≤ M1 ∧ jv = .int .i64 (j : Int) ∧ ov = .slice B' q d' ∧ q ≤ n ∧ Hid (∃ L', OI w n a q A' c' B' d' L' wr)) (fun _ jv _ => M1 - (intOf jv).toNat)
  case atStart => exact ⟨0, b, c, d5, A, B5, Nat.zero_le _, rfl, rfl, hbn, HO⟩
  case round =>
    clear HO hbn
    obtain ⟨j, q, c', d', A', B', hj, rfl, rfl, hq, HO⟩ := hrel
    by_cases hlt : j < M1
    · obtain ⟨L', hO⟩ := HO.out
      have HO1 := Lib.hid hO
      have HSX := HX.out.1.later hO.b
      obtain ⟨g0, off0, hBe, s0⟩ := HSX j (by rw [HX.out.2]; exact hlt)
      subst hBe
      generalize X.getD j [] = s at s0
      have j0 : (0 : Int) ≤ (j : Int) := by omega
      have j1 : (j : Int) < (M1 : Int) := by omega
      obtain ⟨⟨q0, q1, q2⟩, _⟩ := qcells hO.box
      clear hO HSX HO
      by_cases hqn : q = n
      · subst hqn
        go_wp2_with fail
        refine (HPf.out _ _ _ _ _ _ HO1.out.qm HO1.out.qr).mono ?_
        rintro e w6 ⟨rfl, hb6⟩
        have HO2 := Lib.hid (HO1.out.later (bt hb6 (ba (Below.refl w6.heap.size w6) (.cells (qcs none 0 0 0 0) 24))))
        have e1 : ((q : Int) == (q : Int)) = true := by simp
        have e2 : ((q : Int) != (q : Int)) = false := by simp
        clear q0 q1 q2 s0 hb6 HO1
        obtain ⟨⟨q0, q1, q2⟩, _⟩ := qcells HO2.out.box
        go_wp2
        exact ⟨⟨j + 1, q, c', d', A', B', by omega, by go_num, rfl, hq, Lib.hid ⟨_, HO2.out⟩⟩, by simp [intOf]; omega⟩
      · have hlq : q < n := by omega
        go_wp2_with fail
        refine (HPy.out _ _ _ _ _ _ _ HO1.out.qm HO1.out.qr hlq).mono ?_
        rintro e w6 ⟨g, c2, rfl, hQ6, hg6, hb6⟩
        have HQ6 := Lib.hid (And.intro hQ6 (And.intro hg6 hb6))
        clear q0 q1 q2 s0 hQ6 hg6 hb6 hqn
        go_upto_region 13 with fail
        have KN : Hid (Blk (w6.alloc (.cells (qcs (some ⟨g, 0, none⟩) n c2 (a : Int) ((q + 1 : Nat) : Int)) 24)).drew w6.heap.size 24 (qcs (some ⟨g, 0, none⟩) n c2 (a : Int) ((q + 1 : Nat) : Int))) := Lib.hid (Blk.new w6 _ _).drew
        have HV : Hid (Below w6.heap.size w6 ((w6.alloc (.cells (qcs (some ⟨g, 0, none⟩) n c2 (a : Int) ((q + 1 : Nat) : Int)) 24)).drew.alloc (.cells #[sv s] 9))) := Lib.hid (ba (ba (Below.refl _ _) _).drew _)
        have HOA : Hid (((w6.alloc (.cells (qcs (some ⟨g, 0, none⟩) n c2 (a : Int) ((q + 1 : Nat) : Int)) 24)).drew.alloc (.cells #[sv s] 9)).ownsRow (w.heap.size + 1) 9 1 (.slice B' q d') q ((qitems L' a q).map sv)) := Lib.hid (own_later (own_later HO1.out.own HQ6.out.2.2) HV.out)
        have HNW : Hid (∀ (j : Nat) (u : Value), [sv s][j]? = some u → ((w6.alloc (.cells (qcs (some ⟨g, 0, none⟩) n c2 (a : Int) ((q + 1 : Nat) : Int)) 24)).drew.alloc (.cells #[sv s] 9)).cell? ((⟨w6.heap.size + 1, 0, none⟩ : Addr).add j) = some u) := Lib.hid (by
          have h := World.news_of_block (heap_alloc_new (w6.alloc (.cells (qcs (some ⟨g, 0, none⟩) n c2 (a : Int) ((q + 1 : Nat) : Int)) 24)).drew (.cells #[sv s] 9))
          have e : (w6.alloc (.cells (qcs (some ⟨g, 0, none⟩) n c2 (a : Int) ((q + 1 : Nat) : Int)) 24)).drew.heap.size = w6.heap.size + 1 := World.size_alloc _ _
          rw [e] at h
          exact h)
        have HSA : Hid (w.heap.size + 1 ≤ ((w6.alloc (.cells (qcs (some ⟨g, 0, none⟩) n c2 (a : Int) ((q + 1 : Nat) : Int)) 24)).drew.alloc (.cells #[sv s] 9)).heap.size) := Lib.hid (Nat.le_trans HO1.out.size (bt HQ6.out.2.2 HV.out).size)
        have HFIN : Hid (∀ g7 c7 w7, w7.ownsRow (w.heap.size + 1) 9 1 (.slice (some ⟨g7, 0, none⟩) (q + 1) c7) (q + 1) ((qitems L' a q).map sv ++ [sv s]) → ((w6.alloc (.cells (qcs (some ⟨g, 0, none⟩) n c2 (a : Int) ((q + 1 : Nat) : Int)) 24)).drew.alloc (.cells #[sv s] 9)).grownBy w7 (Value.slice B' q d').ownBlock → ((Value.slice B' q d').ownBlock = some g7 ∨ g7 = ((w6.alloc (.cells (qcs (some ⟨g, 0, none⟩) n c2 (a : Int) ((q + 1 : Nat) : Int)) 24)).drew.alloc (.cells #[sv s] 9)).heap.size) → Blk w7 w.heap.size 24 (qcs A' n c' (a : Int) (q : Int)) ∧ OI w n a (q + 1) (some ⟨g, 0, none⟩) c2 (some ⟨g7, 0, none⟩) c7 (qpush L' a q s) (((w7.setCell ⟨w.heap.size, 0, none⟩ (.slice (some ⟨g, 0, none⟩) n c2)).setCell ⟨w.heap.size, 1, none⟩ (.int .i64 (a : Int))).setCell ⟨w.heap.size, 2, none⟩ (.int .i64 ((q + 1 : Nat) : Int)))) := Lib.hid fun g7 c7 w7 h1 h2 h3 => OI.more HO1.out hlq (by omega) HQ6.out.2.2 HQ6.out.1 HQ6.out.2.1 HV.out h1 h2 h3
        have HKN : Hid (∀ w7, ((w6.alloc (.cells (qcs (some ⟨g, 0, none⟩) n c2 (a : Int) ((q + 1 : Nat) : Int)) 24)).drew.alloc (.cells #[sv s] 9)).grownBy w7 (Value.slice B' q d').ownBlock → Blk w7 w6.heap.size 24 (qcs (some ⟨g, 0, none⟩) n c2 (a : Int) ((q + 1 : Nat) : Int))) := Lib.hid fun w7 h2 => (h2.block _ (Blk.lt (Blk.alloc KN.out _)) (fun e => by have h8 := (HO1.out.own.lt _ e.symm).2; have h9 := HQ6.out.2.2.size; omega)).trans (Blk.alloc KN.out _)
        have HKS : Hid (∀ w7, Blk w7 w6.heap.size 24 (qcs (some ⟨g, 0, none⟩) n c2 (a : Int) ((q + 1 : Nat) : Int)) → Blk (((w7.setCell ⟨w.heap.size, 0, none⟩ (.slice (some ⟨g, 0, none⟩) n c2)).setCell ⟨w.heap.size, 1, none⟩ (.int .i64 (a : Int))).setCell ⟨w.heap.size, 2, none⟩ (.int .i64 ((q + 1 : Nat) : Int))) w6.heap.size 24 (qcs (some ⟨g, 0, none⟩) n c2 (a : Int) ((q + 1 : Nat) : Int))) := Lib.hid fun w7 h => by
          have hne : w6.heap.size ≠ w.heap.size := by have h8 := HO1.out.size; have h9 := HQ6.out.2.2.size; omega
          exact ((h.far (p := ⟨w.heap.size, 0, none⟩) hne _).far (p := ⟨w.heap.size, 1, none⟩) hne _).far (p := ⟨w.heap.size, 2, none⟩) hne _
        refine wp_region_held_drew (S := fun W => Blk W w6.heap.size 24 (qcs (some ⟨g, 0, none⟩) n c2 (a : Int) ((q + 1 : Nat) : Int))) (by kernel_rfl) KN.out (fun hHeld => ?_)
        refine wpAnyH_take (i := 0) (oi := ⟨some 71, _, _, _, _, _⟩) (v := qv (some ⟨g, 0, none⟩) n c2 (a : Int) ((q + 1 : Nat) : Int)) rfl (by kernel_rfl) (by kernel_rfl) (by kernel_rfl) (fun _ _ _ h => h) (Or.inl ⟨by rfl, ?_⟩) (by assumption) ?_
        · (intro w9 hSw; obtain ⟨⟨x0, x1, x2⟩, _⟩ := qcells hSw; (try dsimp only at hSw); go_simp)
        try simp only [Act.put, List.setIfInBounds_toArray, List.set_cons_zero, List.set_cons_succ]
        refine wpAnyH_take (i := 1) (oi := ⟨some 72, _, _, _, _, _⟩) (v := .slice B' q d') rfl (by kernel_rfl) (by kernel_rfl) (by kernel_rfl) (fun _ _ _ h => h) (Or.inl ⟨by rfl, ?_⟩) (by assumption) ?_
        · (intro w9 hSw; (try dsimp only at hSw); go_simp)
        try simp only [Act.put, List.setIfInBounds_toArray, List.set_cons_zero, List.set_cons_succ]
        refine wpAnyH_take (i := 2) (oi := ⟨some 73, _, _, _, _, _⟩) (v := sv s) rfl (by kernel_rfl) (by kernel_rfl) (by kernel_rfl) (fun _ _ _ h => h) (Or.inl ⟨by rfl, ?_⟩) (by assumption) ?_
        · (intro w9 hSw; (try dsimp only at hSw); go_simp)
        try simp only [Act.put, List.setIfInBounds_toArray, List.set_cons_zero, List.set_cons_succ]
        refine wpAnyH_ready (rs := [3]) (by kernel_rfl) (by simp) ?_
        refine AllReadyH.cons (o := ⟨some 74, _, _, _, _, _⟩) rfl (fun K9 hK9 => ?_) AllReadyH.nil
        go_simp
        refine hK9.out _ _ ?_ (fun hHeld => ?_)
        · exact Blk.alloc KN.out _
        clear hK9 K9
        try simp only [Act.put, List.setIfInBounds_toArray, List.set_cons_zero, List.set_cons_succ]
        refine wpAnyH_ready (rs := [4]) (by kernel_rfl) (by simp) ?_
        refine AllReadyH.cons (o := ⟨some 75, _, _, _, _, _⟩) rfl (fun K9 hK9 => ?_) AllReadyH.nil
        refine step_append_lies _ (by rfl) _ _ _ (by rfl) (w.heap.size + 1) 9 ti (.string ⟨#[]⟩) 1 16 Try.underlying22 hti hz0 hz1 hz2 rfl (by omega) (.slice B' q d') q ((qitems L' a q).map sv) (by rfl) HOA.out ⟨w6.heap.size + 1, 0, none⟩ 1 1 [sv s] (by rfl) rfl HNW.out (by simp [Value.oneCell']) (by omega) (by unfold maxLen; omega) (by omega) HSA.out _ rfl ?_
        intro g7 c7 w7 hown7 hgr7 hat7 _
        simp only [Act.put, List.setIfInBounds_toArray, List.set_cons_zero, List.set_cons_succ]
        have HE := Lib.hid (HFIN.out g7 c7 w7 hown7 hgr7 hat7)
        have KN7 := HKN.out w7 hgr7
        clear hown7 hgr7 hat7
        refine hK9.out _ _ ?_ (fun hHeld => ?_)
        · exact KN7
        clear hK9 K9
        try simp only [Act.put, List.setIfInBounds_toArray, List.set_cons_zero, List.set_cons_succ]
        refine wpAnyH_ready (rs := [5]) (by kernel_rfl) (by simp) ?_
        refine AllReadyH.cons (o := ⟨none, _, _, _, _, _⟩) rfl (fun K9 hK9 => ?_) AllReadyH.nil
        obtain ⟨⟨x0, x1, x2⟩, f0, f1, f2⟩ := qcells HE.out.1
        go_simp
        clear x0 x1 x2 f0 f1 f2
        refine hK9.out _ _ ?_ (fun hHeld => ?_)
        · exact HKS.out _ KN7
        clear hK9 K9
        try simp only [Act.put]
        refine wpAnyH_take (i := 6) (oi := ⟨some 11, _, _, _, _, _⟩) (v := .slice (some ⟨g7, 0, none⟩) (q + 1) c7) rfl (by kernel_rfl) (by kernel_rfl) (by kernel_rfl) (fun _ _ _ h => h) (Or.inl ⟨by rfl, ?_⟩) (by assumption) ?_
        · (intro w9 hSw; (try dsimp only at hSw); go_simp)
        try simp only [Act.put, List.setIfInBounds_toArray, List.set_cons_zero, List.set_cons_succ]
        refine wpAnyH_done (by kernel_rfl) ?_ _
        clear hHeld KN7
        go_wp2_with fail
        exact ⟨⟨j + 1, q + 1, c2, c7, some ⟨g, 0, none⟩, some ⟨g7, 0, none⟩, by omega, by go_num, rfl, hlq, Lib.hid ⟨_, HE.out.2⟩⟩, by simp [intOf]; omega⟩
    · obtain rfl : j = M1 := by omega
      obtain ⟨L', hO⟩ := HO.out
      have hl := hO.qm.len
      have hB' : q ≤ d' := by
        obtain ⟨A2, c2, e2, hh⟩ := own_form hO.own
        injection e2 with _ _ e5
        subst e5
        rcases hh with ⟨_, e6, _⟩ | ⟨_, _, e6, _⟩
        · omega
        · exact e6
      obtain ⟨x1, j, e1, hjq, e4, e0, b1, b2⟩ := qnorm k1 q (by omega)
      obtain ⟨x2, e2⟩ : ∃ x2, x1 + (q : Int) = x2 := ⟨_, rfl⟩
      obtain ⟨x3, e3⟩ : ∃ x3, x2 + 1 = x3 := ⟨_, rfl⟩
      rw [e2, e3] at e4
      obtain ⟨p, hp⟩ : ∃ p, q - j = p := ⟨_, rfl⟩
      have e5 : (q : Int) - (j : Int) = (p : Int) := by omega
      obtain ⟨y1, i, f1, hip, f4, f0, b3, b4⟩ := qnorm k2 p (by omega)
      obtain ⟨y2, f2⟩ : ∃ y2, y1 + (q : Int) = y2 := ⟨_, rfl⟩
      obtain ⟨y3, f3⟩ : ∃ y3, y2 - (j : Int) = y3 := ⟨_, rfl⟩
      obtain ⟨y4, f5⟩ : ∃ y4, y3 + 1 = y4 := ⟨_, rfl⟩
      rw [show y1 + (p : Int) + 1 = y4 by omega] at f4
      obtain ⟨t, ht⟩ : ∃ t, j + i = t := ⟨_, rfl⟩
      have e6 : (j : Int) + (i : Int) = (t : Int) := by omega
      have b5 : -200 ≤ x2 ∧ x2 ≤ 200 := by omega
      have b6 : 0 ≤ x3 ∧ x3 ≤ 200 := by omega
      have b7 : -200 ≤ y2 ∧ y2 ≤ 200 := by omega
      have b8 : -200 ≤ y3 ∧ y3 ≤ 200 := by omega
      have b9 : 0 ≤ y4 ∧ y4 ≤ 200 := by omega
      have htq : t ≤ q := by omega
      obtain ⟨u1, hu1⟩ : ∃ u1, qs n a j = u1 := ⟨_, rfl⟩
      obtain ⟨u2, hu2⟩ : ∃ u2, qs n u1 i = u2 := ⟨_, rfl⟩
      obtain ⟨m2, hm2⟩ : ∃ m2, p - i = m2 := ⟨_, rfl⟩
      obtain ⟨L1, hL1⟩ : ∃ L1, qdrop L' a j = L1 := ⟨_, rfl⟩
      obtain ⟨L2, hL2⟩ : ∃ L2, qdrop L1 u1 i = L2 := ⟨_, rfl⟩
      obtain ⟨r1, r2⟩ := hO.qr.drop hjq
      rw [hl, hp, hu1, hL1] at r1 r2
      have hl1 : L1.length = n := by rw [← hL1, qdrop_len, hl]
      obtain ⟨r3, r4⟩ := r1.drop hip
      rw [hl1, hm2, hu2, hL2] at r3 r4
      rw [r2, List.drop_drop, ht] at r4
      have r5 : qs n a t = u2 := by rw [← ht, ← qs_add, hu1, hu2]
      have r6 : q - t = m2 := by omega
      have r7 : qdrop L' a t = L2 := by
        have := hO.qr.drop_two (k := j) (j := i) (by omega)
        rw [hl, hu1, hL1, hL2, ht] at this
        exact this.symm
      have HD1 : Hid (∀ W, Below wr.heap.size wr W → Calls Try.prog 14 #[qv A' n c' (a : Int) (q : Int), .int .i64 (j : Int)] W fun e w' => ∃ g c', e = .returned (.tuple #[qv (some ⟨g, 0, none⟩) n c' (u1 : Int) (p : Int), .int .i64 0]) ∧ QM w' (some ⟨g, 0, none⟩) n c' L1 ∧ Below W.heap.size W w') := Lib.hid fun W hb => by
        have := HDr.out W A' c' a q j L' (hO.qm.later hb) hO.qr hjq
        rwa [hu1, hp, hL1] at this
      have HD2 : Hid (∀ W g c', QM W (some ⟨g, 0, none⟩) n c' L1 → Calls Try.prog 14 #[qv (some ⟨g, 0, none⟩) n c' (u1 : Int) (p : Int), .int .i64 (i : Int)] W fun e w' => ∃ g c', e = .returned (.tuple #[qv (some ⟨g, 0, none⟩) n c' (u2 : Int) (m2 : Int), .int .i64 0]) ∧ QM w' (some ⟨g, 0, none⟩) n c' L2 ∧ Below W.heap.size W w') := Lib.hid fun W g c' h => by
        have := HDr.out W (some ⟨g, 0, none⟩) c' u1 p i L1 h r1 hip
        rwa [hu2, hm2, hL2] at this
      have HD3 : Hid (∀ W, Below wr.heap.size wr W → Calls Try.prog 14 #[qv A' n c' (a : Int) (q : Int), .int .i64 (t : Int)] W fun e w' => ∃ g c', e = .returned (.tuple #[qv (some ⟨g, 0, none⟩) n c' (u2 : Int) (m2 : Int), .int .i64 0]) ∧ QM w' (some ⟨g, 0, none⟩) n c' L2 ∧ Below W.heap.size W w') := Lib.hid fun W hb => by
        have := HDr.out W A' c' a q t L' (hO.qm.later hb) hO.qr htq
        rwa [r5, r6, r7] at this
      have HI2 : Hid (∀ W g c', QM W (some ⟨g, 0, none⟩) n c' L2 → Calls Try.prog 15 #[qv (some ⟨g, 0, none⟩) n c' (u2 : Int) (m2 : Int)] W fun e w' => ∃ A' c', e = .returned (.tuple #[.slice A' m2 c', .int .i64 0]) ∧ SR w' A' (qitems L2 u2 m2) ∧ Below W.heap.size W w') := Lib.hid fun W g c' h => (HIt.out W _ c' u2 m2 L2 h r3).mono fun e w' ⟨A', c', h1, h2, h3⟩ => ⟨A', c', h1, own_SR' h2 (qitems_len _ _ _), h3⟩
      have HR1 : Hid (∀ W, Below wr.heap.size wr W → Calls Try.prog 8 #[qv A' n c' (a : Int) (q : Int)] W fun e w' => e = .returned (.bool true) ∧ Below W.heap.size W w') := Lib.hid fun W hb => HRt.out W A' c' a q L' (hO.qm.later hb) hO.qr
      have HR2 : Hid (∀ W g c', QM W (some ⟨g, 0, none⟩) n c' L2 → Calls Try.prog 8 #[qv (some ⟨g, 0, none⟩) n c' (u2 : Int) (m2 : Int)] W fun e w' => e = .returned (.bool true) ∧ Below W.heap.size W w') := Lib.hid fun W g c' h => HRt.out W _ c' u2 m2 L2 h r3
      obtain ⟨B2, hrunS, hsrS⟩ := qslice_from B' (qitems L' a q) q d' t (qitems_len _ _ _) htq hB'
      rw [r6] at hrunS
      have HT2 : Hid (∀ W, Below wr.heap.size wr W → SR W B2 (qitems L2 u2 m2)) := Lib.hid fun W hb => by rw [r4]; exact (hsrS _ (own_SR' hO.own (qitems_len _ _ _))).later hb
      have HS2 : Hid (∀ W g c' g' c'', QM W (some ⟨g, 0, none⟩) n c' L2 → QM W (some ⟨g', 0, none⟩) n c'' L2 → Calls Try.prog 11 #[qv (some ⟨g, 0, none⟩) n c' (u2 : Int) (m2 : Int), qv (some ⟨g', 0, none⟩) n c'' (u2 : Int) (m2 : Int)] W fun e w' => e = .returned (.bool true) ∧ Below W.heap.size W w') := Lib.hid fun W g c' g' c'' h h' => HSm.out W _ _ _ _ _ _ _ h h'
      have HX2 : Hid (∀ W A' c' A'' c'', SR W A' (qitems L2 u2 m2) → SR W A'' (qitems L2 u2 m2) → Calls Try.prog 16 #[.slice A' m2 c', .slice A'' m2 c''] W fun e w' => e = .returned (.bool true) ∧ Below W.heap.size W w') := Lib.hid fun W A' c' A'' c'' h h' => HTx.out W _ _ _ _ m2 _ h h' (qitems_len _ _ _) (by omega)
      have HBX := Lib.hid hO.box
      have HWB := Lib.hid hO.b
      have hn64 : q ≤ 64 := by omega
      generalize qitems L2 u2 m2 = T at *
      have i1 : (p : Int) ≤ 64 := by omega
      have i2 : (j : Int) ≤ 64 := by omega
      have i3 : (i : Int) ≤ 64 := by omega
      obtain ⟨⟨q0, q1, q2⟩, _⟩ := qcells HBX.out
      clear hO HO hl hB' hp ht hu1 hu2 hm2 hL1 hL2 r1 r2 r3 r4 r5 r6 r7 hl1 hsrS HIt HPy HPf HDr HRt HSm HTx HX HQM hjq hip htq hq hn hn1
      go_wp2_with fail
      refine (HD1.out _ (Below.refl _ _)).mono ?_
      rintro e w5 ⟨ga, ca, rfl, hqa, hb5⟩
      have hb6 := bt hb5 (ba (Below.refl w5.heap.size w5) (.cells (qcs (some ⟨ga, 0, none⟩) n ca (u1 : Int) (p : Int)) 24))
      have B6 := Lib.hid hb6
      have SA := Lib.hid (Blk.new w5 24 (qcs (some ⟨ga, 0, none⟩) n ca (u1 : Int) (p : Int)))
      have QA := Lib.hid (hqa.later (ba (Below.refl w5.heap.size w5) (.cells (qcs (some ⟨ga, 0, none⟩) n ca (u1 : Int) (p : Int)) 24)))
      clear hqa hb5 hb6 HD1 q0 q1 q2
      obtain ⟨⟨q0, q1, q2⟩, _⟩ := qcells SA.out
      go_wp2_with fail
      generalize w5.alloc (.cells (qcs (some ⟨ga, 0, none⟩) n ca (u1 : Int) (p : Int)) 24) = w6 at B6 SA QA q0 q1 q2 ⊢
      clear q0 q1 q2
      refine (HD2.out _ _ _ QA.out).mono ?_
      rintro e w7 ⟨gb, cb, rfl, hqb, hb7⟩
      have hba8 := ba (Below.refl w7.heap.size w7) (.cells (qcs (some ⟨gb, 0, none⟩) n cb (u2 : Int) (m2 : Int)) 24)
      have B8 := Lib.hid (bt B6.out (bt hb7 hba8))
      have SB8 := Lib.hid (Blk.new w7 24 (qcs (some ⟨gb, 0, none⟩) n cb (u2 : Int) (m2 : Int)))
      have QB8 := Lib.hid (hqb.later hba8)
      clear hqb hb7 hba8 HD2 B6 SA QA
      have BX8 := Lib.hid (HBX.out.below B8.out)
      obtain ⟨⟨q0, q1, q2⟩, _⟩ := qcells BX8.out
      go_wp2_with fail
      generalize w7.alloc (.cells (qcs (some ⟨gb, 0, none⟩) n cb (u2 : Int) (m2 : Int)) 24) = w8 at B8 SB8 QB8 BX8 q0 q1 q2 ⊢
      clear q0 q1 q2 BX8
      generalize w7.heap.size = bB at SB8 ⊢
      refine (HD3.out _ B8.out).mono ?_
      rintro e w9 ⟨gc, cc, rfl, hqc, hb9⟩
      have hba10 := ba (Below.refl w9.heap.size w9) (.cells (qcs (some ⟨gc, 0, none⟩) n cc (u2 : Int) (m2 : Int)) 24)
      have hb10 := bt hb9 hba10
      have B10 := Lib.hid (bt B8.out hb10)
      have SB10 := Lib.hid (SB8.out.below hb10)
      have QB10 := Lib.hid (QB8.out.later hb10)
      have SC10 := Lib.hid (Blk.new w9 24 (qcs (some ⟨gc, 0, none⟩) n cc (u2 : Int) (m2 : Int)))
      have QC10 := Lib.hid (hqc.later hba10)
      clear hqc hb9 hba10 hb10 HD3 B8 SB8 QB8
      obtain ⟨⟨q0, q1, q2⟩, _⟩ := qcells SB10.out
      go_wp2_with fail
      generalize w9.alloc (.cells (qcs (some ⟨gc, 0, none⟩) n cc (u2 : Int) (m2 : Int)) 24) = w10 at B10 SB10 QB10 SC10 QC10 q0 q1 q2 ⊢
      clear q0 q1 q2
      generalize w9.heap.size = bC at SC10 ⊢
      refine (HI2.out _ _ _ QB10.out).mono ?_
      rintro e w11 ⟨A11, c11, rfl, hsr, hb11⟩
      have U11 := Lib.hid (QU.mk (bt B10.out hb11) (SB10.out.below hb11) (SC10.out.below hb11) (QB10.out.later hb11) (QC10.out.later hb11) hsr)
      clear hsr hb11 HI2 B10 SB10 QB10 SC10 QC10
      go_wp2_with fail
      refine (HAL.out _).mono ?_
      rintro e w12 ⟨rfl, hb12⟩
      have U12 := Lib.hid (U11.out.later hb12)
      clear hb12 U11 HAL
      obtain ⟨⟨q0, q1, q2⟩, _⟩ := qcells (HBX.out.below U12.out.b)
      go_wp2_with fail
      refine (HR1.out _ U12.out.b).mono ?_
      rintro e w13 ⟨rfl, hb13⟩
      have U13 := Lib.hid (U12.out.later hb13)
      clear hb13 U12 HR1 q0 q1 q2
      obtain ⟨⟨q0, q1, q2⟩, _⟩ := qcells U13.out.sb
      go_wp2_with fail
      refine (HR2.out _ _ _ U13.out.qb).mono ?_
      rintro e w14 ⟨rfl, hb14⟩
      have U14 := Lib.hid (U13.out.later hb14)
      clear hb14 U13 HR2 q0 q1 q2
      obtain ⟨⟨q0, q1, q2⟩, _⟩ := qcells U14.out.sb
      obtain ⟨⟨q3, q4, q5⟩, _⟩ := qcells U14.out.sc
      go_wp2_with fail
      refine (HS2.out _ _ _ _ _ U14.out.qb U14.out.qc).mono ?_
      rintro e w15 ⟨rfl, hb15⟩
      have U15 := Lib.hid (U14.out.later hb15)
      clear hb15 U14 HS2 q0 q1 q2 q3 q4 q5
      go_wp2_with fail
      refine (HX2.out _ _ _ _ _ U15.out.sr (HT2.out _ U15.out.b)).mono ?_
      rintro e w16 ⟨rfl, hb16⟩
      go_wp2
      go_ret
      exact ⟨rfl, bt HWB.out (bt U15.out.b hb16)⟩
end Go.Proofs.Ytnehodipblabbaa
