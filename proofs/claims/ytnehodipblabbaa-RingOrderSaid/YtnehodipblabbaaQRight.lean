/- The contract of Right. -/
import Derived.Test.YtnehodipblabbaaQHands
namespace Go.Proofs.Ytnehodipblabbaa
open Go.RowKit Go.Shelf
attribute [local go_sem] Oper.semAt_some

set_option maxRecDepth 100000 in
set_option maxHeartbeats 4000000 in
theorem qright_bad (A : Option Addr) (n c : Nat) (f m : Int) (cc : Bool) (w : World)
    (HC : Hid (∀ w, Calls Try.prog 20 #[.int .i64 (n : Int)] w fun e w' => e = .returned (.bool cc) ∧ w = w'))
    (P : cc = false ∨ (cc = true ∧ f < 0) ∨ (cc = true ∧ 0 ≤ f ∧ (n : Int) ≤ f) ∨ (cc = true ∧ 0 ≤ f ∧ f < (n : Int) ∧ m < 0) ∨ (cc = true ∧ 0 ≤ f ∧ f < (n : Int) ∧ 0 ≤ m ∧ (n : Int) < m)) :
    Calls Try.prog 8 #[qv A n c f m] w fun e w' => e = .returned (.bool false) ∧ Below w.heap.size w w' := by
  have HK : Hid (Blk ((qbox w A n c f m).alloc (.cells #[.bool false] 4)) (w.heap.size + 1) 4 #[.bool false]) := Lib.hid (Blk.newAt (by simp) _ _)
  have HB : Hid (Below w.heap.size w ((qbox w A n c f m).alloc (.cells #[.bool false] 4))) := Lib.hid (ba (qbox_below w A n c f m) _)
  rcases P with rfl | ⟨rfl, p1⟩ | ⟨rfl, p1, p2⟩ | ⟨rfl, p1, p2, p3⟩ | ⟨rfl, p1, p2, p3, p4⟩
  all_goals
    go_enter Try.func8, Try.ntmps8
    go_wp2_with fail
    refine (HC.out _).mono ?_
    rintro e w1 ⟨rfl, rfl⟩
    go_wp2
    refine bodyPost_ret (bool1_result rfl (HK.out)) rfl ?_
    exact ⟨rfl, HB.out⟩

/-- Between two rounds. -/
def RightI (w : World) (A : Option Addr) (n c f m : Nat) (L : List (List UInt8)) (pre : List Nat) (W : World) : Prop :=
  (Hid (∀ x ∈ pre, L.getD x [] = []) ∧ Hid (Blk W w.heap.size 24 (qcs A n c (f : Int) (m : Int))) ∧ Hid (Blk W (w.heap.size + 1) 4 #[.bool false])) ∧ Hid (Below w.heap.size w W)
/-- A round has left. -/
def RightX (w : World) (L : List (List UInt8)) (cd : Code) (pre : List Nat) (W : World) : Prop :=
  (cd = .ret ∧ Hid (∃ x ∈ pre, L.getD x [] ≠ []) ∧ Hid (Blk W (w.heap.size + 1) 4 #[.bool false])) ∧ Hid (Below w.heap.size w W)
theorem RightI_kept (w : World) (A : Option Addr) (n c f m : Nat) (L : List (List UInt8)) {B : Nat} (hB : w.heap.size ≤ B) : KeptQ B (RightI w A n c f m L) := by
  rintro s W W' row ⟨⟨h0, h1, h2⟩, h6⟩ hg hr
  exact ⟨⟨h0, Lib.hid (hr.blk hg h1.out), Lib.hid (hr.blk hg h2.out)⟩, Lib.hid (h6.out.grown hg h6.out.size (fun k e => Nat.le_trans hB (hr k e).1))⟩
theorem RightX_kept (w : World) (L : List (List UInt8)) {B : Nat} (hB : w.heap.size ≤ B) (cd : Code) : KeptQ B (RightX w L cd) := by
  rintro s W W' row ⟨⟨h0, h1, h2⟩, h6⟩ hg hr
  exact ⟨⟨h0, h1, Lib.hid (hr.blk hg h2.out)⟩, Lib.hid (h6.out.grown hg h6.out.size (fun k e => Nat.le_trans hB (hr k e).1))⟩
theorem qblk_putObj {W : World} {g D : Nat} {t : TypeId} {cs : Array Value} {o o' : Obj} (h : Blk W g t cs) (hD : W.heap[D]? = some o) (ho : o.isCells = false) : Blk (W.putObj D o') g t cs := by
  refine (World.putObj_heap_other (fun e => ?_)).trans h
  subst e
  rw [show W.heap[g]? = _ from h] at hD
  cases hD; cases ho
/-- .. told by the slots that are handed on. -/
theorem qright_turn {L : List (List UInt8)} {f m n : Nat} (hn : L.length = n) (hm : m ≤ n) : (∀ i, i < n → m ≤ i → qat L f i = []) ↔ ∀ x ∈ qturn n f m (n - m), L.getD x [] = [] := by
  subst hn
  constructor
  · intro h x hx
    obtain ⟨t, ht, rfl⟩ := List.mem_map.1 hx
    rw [List.mem_range] at ht
    exact h (m + t) (by omega) (by omega)
  · intro h i h1 h2
    exact h _ (List.mem_map.2 ⟨i - m, List.mem_range.2 (by omega), by rw [show m + (i - m) = i by omega]⟩)

set_option maxRecDepth 100000 in
set_option maxHeartbeats 4000000 in
theorem qright_good (A : Option Addr) (n c f m : Nat) (L : List (List UInt8)) (w : World) (hM : QM w A n c L) (h1 : 1 ≤ n) (h2 : n ≤ 64) (hf : f < n) (hm : m ≤ n) :
    Calls Try.prog 8 #[qv A n c (f : Int) (m : Int)] w fun e w' => e = .returned (.bool (decide (∀ i, i < n → m ≤ i → qat L f i = []))) ∧ Below w.heap.size w w' := by
  have HC : Hid (∀ w, Calls Try.prog 20 #[.int .i64 (n : Int)] w fun e w' => e = .returned (.bool true) ∧ w = w') := Lib.hid (fun w => by
    have h := qcount_any (n : Int) w
    rwa [show (decide (1 ≤ (n : Int)) && decide ((n : Int) ≤ 64)) = true by simp; omega] at h)
  have HY : Hid ((∀ x ∈ qturn n f m (n - m), L.getD x [] = []) → decide (∀ i, i < n → m ≤ i → qat L f i = []) = true) := Lib.hid fun h => by
    rw [decide_eq_true_iff]; exact (qright_turn hM.len hm).2 h
  have HN : Hid (∀ pre, pre <+: qturn n f m (n - m) → (∃ x ∈ pre, L.getD x [] ≠ []) → decide (∀ i, i < n → m ≤ i → qat L f i = []) = false) := Lib.hid fun pre hp ⟨x, hx, hne⟩ => by
    rw [decide_eq_false_iff_not]; intro h; exact hne ((qright_turn hM.len hm).1 h x (hp.subset hx))
  generalize decide (∀ i, i < n → m ≤ i → qat L f i = []) = R at HY HN ⊢
  have HX : Hid (∀ x ∈ qturn n f m (n - m), x < n) := Lib.hid fun x hx => by
    obtain ⟨t, _, rfl⟩ := List.mem_map.1 hx
    exact qs_lt h1
  have HM := Lib.hid hM
  have i1 : (f : Int) < (n : Int) := by omega
  have i2 : (m : Int) ≤ (n : Int) := by omega
  have hB0 : Below w.heap.size w ((qbox w A n c f m).alloc (.cells #[.bool false] 4)) := ba (qbox_below w A n c f m) _
  have HK0 := Lib.hid ((qbox_blk w A n c f m).alloc (.cells #[.bool false] 4))
  have HK1 : Hid (Blk ((qbox w A n c f m).alloc (.cells #[.bool false] 4)) (w.heap.size + 1) 4 #[.bool false]) := Lib.hid (Blk.newAt (by simp) _ _)
  have z0 : ((qbox w A n c f m).alloc (.cells #[.bool false] 4)).heap.size = w.heap.size + 2 := by simp
  have HB0 := Lib.hid hB0
  clear hB0 hM
  refine (callsIn_wide (n := 6)).1 ?_
  refine callsIn_of_wp_marks Try.func8 rfl trivial ?_ rfl
  simp only [Try.ntmps8, List.size_toArray, List.length_cons, List.length_nil, Nat.reduceAdd, Nat.reduceSub, Array.replicate_succ, Array.replicate_zero, List.push_toArray, List.append_toArray, List.nil_append, List.cons_append]
  gi_wp2_with fail
  refine ⟨trivial, ?_⟩
  refine (callsIn_wide.2 (HC.out _)).mono ?_
  rintro e w1 ⟨rfl, rfl⟩
  gi_wp2_with fail
  refine ⟨trivial, ?_⟩
  refine (callsIn_wide.2 (turned_any A n c f m m n _)).mono ?_
  rintro e w3 ⟨rfl, rfl⟩
  rw [z0]
  have K0 := Lib.hid (((HK0.out.alloc (.cells (qcs A n c (f : Int) (m : Int)) 24)).alloc (.cells #[.int .i64 (m : Int)] 3)).alloc (.cells #[.int .i64 (n : Int)] 3))
  have K1 := Lib.hid (((HK1.out.alloc (.cells (qcs A n c (f : Int) (m : Int)) 24)).alloc (.cells #[.int .i64 (m : Int)] 3)).alloc (.cells #[.int .i64 (n : Int)] 3))
  have HB := Lib.hid (ba (ba (ba HB0.out (.cells (qcs A n c (f : Int) (m : Int)) 24)) (.cells #[.int .i64 (m : Int)] 3)) (.cells #[.int .i64 (n : Int)] 3))
  generalize ((qbox w A n c f m).alloc (.cells #[.bool false] 4)) = v at *
  have k2 := ((Blk.newAt z0 24 (qcs A n c (f : Int) (m : Int))).alloc (.cells #[.int .i64 (m : Int)] 3)).alloc (.cells #[.int .i64 (n : Int)] 3)
  have k3 := (Blk.newAt (w := v.alloc (.cells (qcs A n c (f : Int) (m : Int)) 24)) (g := w.heap.size + 2 + 1) (by simp [z0]) 3 #[.int .i64 (m : Int)]).alloc (.cells #[.int .i64 (n : Int)] 3)
  have k4 := Blk.newAt (w := (v.alloc (.cells (qcs A n c (f : Int) (m : Int)) 24)).alloc (.cells #[.int .i64 (m : Int)] 3)) (g := w.heap.size + 2 + 2) (by simp [z0]) 3 #[.int .i64 (n : Int)]
  have z4 : (((v.alloc (.cells (qcs A n c (f : Int) (m : Int)) 24)).alloc (.cells #[.int .i64 (m : Int)] 3)).alloc (.cells #[.int .i64 (n : Int)] 3)).heap.size = w.heap.size + 5 := by simp [z0]
  generalize ((v.alloc (.cells (qcs A n c (f : Int) (m : Int)) 24)).alloc (.cells #[.int .i64 (m : Int)] 3)).alloc (.cells #[.int .i64 (n : Int)] 3) = W0 at *
  have eg : ∀ args w, (callFunc 27 args).run Try.prog w = .ok (.enter 27 args) w := enters_of Try.func27 (by kernel_rfl) rfl
  have HHA := turn_hands 5 (by omega) _ _ _ n c f m (n - m) (m : Int) A w W0 h1 (by omega) (by omega) (by omega) k3 (by rw [show m + (n - m) = n by omega]; exact k4) k2
  clear k2 k3 k4 HC HK0 HK1 HB0 z0 h1 h2 hf hm
  generalize qturn n f m (n - m) = zs at *
  gi_wp2_with fail
  refine range_one (e1 := qe) (n := 6) (w0 := W0) (by omega) (gf := 27) (lb := #[.pointer (some ⟨w.heap.size + 2 + 1, 0, none⟩), .pointer (some ⟨w.heap.size + 2 + 2, 0, none⟩), .pointer (some ⟨w.heap.size + 2, 0, none⟩)]) rfl eg (n₀ := w.heap.size) (by omega) HHA (Below.refl _ _) (RightI w A n c f m L) (RightX w L) (RightI_kept w _ _ _ _ _ _ (by omega)) (RightX_kept w _ (by omega)) ⟨⟨Lib.hid (fun x hx => by cases hx), K0, K1⟩, HB⟩
    (fun x a' W => a' = { tmps := #[qv A n c f m, .pointer (some ⟨w.heap.size, 0, none⟩), .pointer (some ⟨w.heap.size + 1, 0, none⟩), .int .i64 (n : Int), qe x, .pointer (some ⟨w.heap.size, 0, none⟩), .slice A n c, .int .i64 (n : Int), .int .i64 (n : Int), .bool true, .bool false, .bool false, .pointer (some ⟨w.heap.size, 1, none⟩), .int .i64 (f : Int), .bool false, .bool false, .bool false, .pointer (some ⟨w.heap.size, 1, none⟩), .int .i64 (f : Int), .int .i64 (n : Int), .bool false, .bool false, .bool false, .pointer (some ⟨w.heap.size, 2, none⟩), .int .i64 (m : Int), .bool false, .bool false, .bool false, .pointer (some ⟨w.heap.size, 2, none⟩), .int .i64 (m : Int), .int .i64 (n : Int), .bool false, .bool false, qv A n c f m, .pointer (some ⟨w.heap.size, 2, none⟩), .int .i64 (m : Int), .int .i64 (n : Int), .func (.func 27) #[] #[.pointer (some ⟨w.heap.size + 2 + 1, 0, none⟩), .pointer (some ⟨w.heap.size + 2 + 2, 0, none⟩), .pointer (some ⟨w.heap.size + 2, 0, none⟩)], qe x, undef, undef, undef, undef, undef, undef], defers := [] })
    (fun x a' Y l o o' hs hl ho hc => hs)
    ?assign ?body ?done ?stop
  case assign =>
    rintro l pre x W Kc hI hKc
    gi_wp2
    exact hKc _ _ (KeepsFrom.refl _ _) (KpQ.refl _ _) hI rfl
  case body =>
    rintro l pre x a' W hl ⟨⟨h0, h1, h2⟩, hB1⟩ rfl hpre
    obtain ⟨⟨q0, q1, q2⟩, _⟩ := qcells h1.out
    have hx := HX.out x (hpre.subset (by simp))
    obtain ⟨g, off, rfl, c0⟩ := (HM.out.later hB1.out).row x (by rw [HM.out.len]; exact hx)
    obtain ⟨d0, d1⟩ := qcell h2.out
    have i3 : (x : Int) < (n : Int) := by omega
    have i4 : (0 : Int) ≤ (x : Int) := by omega
    clear hpre K0 K1
    by_cases hxe : L.getD x [] = []
    · have HH0 : Hid (∀ y ∈ pre ++ [x], L.getD y [] = []) := Lib.hid (fun y hy => by
        rcases List.mem_append.1 hy with h | h
        · exact h0.out y h
        · rw [List.mem_singleton.1 h]; exact hxe)
      rw [hxe] at c0
      clear hxe
      gi_wp2
      exact ⟨KeepsFrom.refl _ _, KpQ.refl _ _, ⟨HH0, h1, h2⟩, hB1⟩
    · have HXX : Hid (∃ y ∈ pre ++ [x], L.getD y [] ≠ []) := Lib.hid ⟨x, by simp, hxe⟩
      generalize L.getD x [] = t at *
      have ht : (t == []) = false := by simpa using hxe
      have ht2 : (t != []) = true := by simp [bne, ht]
      clear hxe
      gi_wp2
      exact ⟨(KeepsOthers.setCell _ _ _).from _, ⟨rfl, HXX, Lib.hid (h2.out.set_ 0 (.bool false))⟩, Lib.hid (bs hB1.out (by omega) _)⟩
  case done =>
    rintro D W hD ⟨⟨h0, h1, h2⟩, hB1⟩ hKd
    have hRe := HY.out h0.out
    obtain ⟨d0, d1⟩ := qcell h2.out
    gi_wp2
    have L2 := h2.out.set_ 0 (.bool true)
    have B2 := bs hB1.out (b := w.heap.size + 1) (o := 0) (by omega) (.bool true)
    have hKn := (Below.heap_setCell W ⟨w.heap.size + 1, 0, none⟩ (.bool true) D (by simp; omega)).trans hKd
    show bodyPostM _ _ _ _ _ _ _ (W.setCell ⟨w.heap.size + 1, 0, none⟩ (.bool true))
    generalize W.setCell ⟨w.heap.size + 1, 0, none⟩ (.bool true) = W2 at *
    refine ⟨by simp, .inl ⟨_, _, rfl, run_takeDeferred hKn, ?_⟩⟩
    refine ⟨.bool true, bool1_result rfl (qblk_putObj L2 hKn rfl), by rw [hRe], ?_⟩
    exact B2.grown (grownBy_putObj' W2 D _) B2.size (fun k e => by cases e; omega)
  case stop =>
    rintro D cd pre W hD hp ⟨⟨rfl, h1, h2⟩, hB1⟩ hKd
    have hRe := HN.out pre hp h1.out
    gi_wp2
    refine ⟨by simp, .inl ⟨_, _, rfl, run_takeDeferred hKd, ?_⟩⟩
    refine ⟨.bool false, bool1_result rfl (qblk_putObj h2.out hKd rfl), by rw [hRe], ?_⟩
    exact hB1.out.grown (grownBy_putObj' W D _) hB1.out.size (fun k e => by cases e; omega)

/-- Right, of any ring that can be read. -/
theorem qright_any (A : Option Addr) (n c : Nat) (f m : Int) (L : List (List UInt8)) (w : World) (hM : QM w A n c L) :
    Calls Try.prog 8 #[qv A n c f m] w fun e w' => e = .returned (.bool (qright L f m)) ∧ Below w.heap.size w w' := by
  have hl := hM.len
  by_cases hg : ((1 ≤ n ∧ n ≤ 64) ∧ (0 ≤ f ∧ f < (n : Int)) ∧ (0 ≤ m ∧ m ≤ (n : Int)))
  · obtain ⟨⟨h1, h2⟩, ⟨h3, h4⟩, h5, h6⟩ := hg
    obtain ⟨a, rfl⟩ : ∃ a : Nat, f = (a : Int) := ⟨f.toNat, by omega⟩
    obtain ⟨b, rfl⟩ : ∃ b : Nat, m = (b : Int) := ⟨m.toNat, by omega⟩
    refine (qright_good A n c a b L w hM h1 h2 (by omega) (by omega)).mono ?_
    rintro e w' ⟨rfl, hb⟩
    refine ⟨?_, hb⟩
    congr 2
    unfold qright
    rw [hl, Int.toNat_natCast, Int.toNat_natCast, decide_eq_decide]
    exact ⟨fun h => ⟨⟨h1, h2⟩, ⟨h3, h4⟩, ⟨h5, h6⟩, h⟩, fun h => h.2.2.2⟩
  · have hr : qright L f m = false := by
      unfold qright
      rw [decide_eq_false_iff_not, hl]
      exact fun h => hg ⟨h.1, h.2.1, h.2.2.1⟩
    rw [hr]
    refine qright_bad A n c f m (decide (1 ≤ (n : Int)) && decide ((n : Int) ≤ 64)) w (Lib.hid fun w => qcount_any (n : Int) w) ?_
    by_cases h1 : 1 ≤ n ∧ n ≤ 64
    · have hc : (decide (1 ≤ (n : Int)) && decide ((n : Int) ≤ 64)) = true := by simp; omega
      rw [hc]
      have h : f < 0 ∨ (0 ≤ f ∧ (n : Int) ≤ f) ∨ (0 ≤ f ∧ f < (n : Int) ∧ m < 0) ∨ (0 ≤ f ∧ f < (n : Int) ∧ 0 ≤ m ∧ (n : Int) < m) := by omega
      rcases h with h | h | h | h
      · exact .inr (.inl ⟨rfl, h⟩)
      · exact .inr (.inr (.inl ⟨rfl, h⟩))
      · exact .inr (.inr (.inr (.inl ⟨rfl, h⟩)))
      · exact .inr (.inr (.inr (.inr ⟨rfl, h⟩)))
    · left
      rw [Bool.and_eq_false_iff]
      simp only [decide_eq_false_iff_not]
      omega
end Go.Proofs.Ytnehodipblabbaa
