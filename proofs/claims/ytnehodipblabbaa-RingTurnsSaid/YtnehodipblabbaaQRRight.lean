/- The contract of the reference's Right. -/
import Derived.Test.YtnehodipblabbaaQSlot
import Derived.Test.YtnehodipblabbaaQClone
namespace Go.Proofs.Ytnehodipblabbaa
open Go.RowKit

set_option maxRecDepth 100000 in
set_option maxHeartbeats 4000000 in
theorem qrright_bad (A : Option Addr) (n c : Nat) (f m : Int) (w : World)
    (P : (n : Int) < 1 ∨ (1 ≤ (n : Int) ∧ 64 < (n : Int)) ∨ (1 ≤ (n : Int) ∧ (n : Int) ≤ 64 ∧ f < 0) ∨ (1 ≤ (n : Int) ∧ (n : Int) ≤ 64 ∧ 0 ≤ f ∧ (n : Int) ≤ f) ∨ (1 ≤ (n : Int) ∧ (n : Int) ≤ 64 ∧ 0 ≤ f ∧ f < (n : Int) ∧ m < 0) ∨ (1 ≤ (n : Int) ∧ (n : Int) ≤ 64 ∧ 0 ≤ f ∧ f < (n : Int) ∧ 0 ≤ m ∧ (n : Int) < m)) :
    Calls Try.prog 9 #[qv A n c f m] w fun e w' => e = .returned (.bool false) ∧ Below w.heap.size w w' := by
  have HB := Lib.hid (qbox_below w A n c f m)
  rcases P with p1 | ⟨p1, p2⟩ | ⟨p1, p2, p3⟩ | ⟨p1, p2, p3, p4⟩ | ⟨p1, p2, p3, p4, p5⟩ | ⟨p1, p2, p3, p4, p5, p6⟩
  all_goals
    go_enter Try.func9, Try.ntmps9
    go_wp2
    go_ret
    exact ⟨rfl, HB.out⟩

set_option maxRecDepth 100000 in
set_option maxHeartbeats 4000000 in
theorem qrright_good (A : Option Addr) (n c f m : Nat) (L : List (List UInt8)) (w : World) (hM : QM w A n c L) (h1 : 1 ≤ n) (h2 : n ≤ 64) (hf : f < n) (hm : m ≤ n) :
    Calls Try.prog 9 #[qv A n c (f : Int) (m : Int)] w fun e w' => e = .returned (.bool (decide (∀ j, j < n → L.getD j [] = [] ∨ qp n f j < m))) ∧ Below w.heap.size w w' := by
  have HB := Lib.hid (qbox_below w A n c (f : Int) (m : Int))
  have HK := Lib.hid (qbox_blk w A n c (f : Int) (m : Int))
  have HM := Lib.hid hM
  have HP := Lib.hid (fun j W (hj : j < n) => place_any A n c f j (m : Int) W hM.few hf hj)
  have i1 : (1 : Int) ≤ (n : Int) := by omega
  have i2 : (n : Int) ≤ 64 := by omega
  have i3 : (f : Int) < (n : Int) := by omega
  have i4 : (m : Int) ≤ (n : Int) := by omega
  have d1 : decide ((n : Int) < 1) = false := by simp; omega
  have d2 : decide (64 < (n : Int)) = false := by simp; omega
  have d3 : decide ((f : Int) < 0) = false := by simp
  have d4 : decide (n ≤ f) = false := by simp; omega
  have d5 : decide ((m : Int) < 0) = false := by simp
  have d6 : decide (n < m) = false := by simp; omega
  clear hM h1 h2 hf hm
  go_enter Try.func9, Try.ntmps9
  go_wp2_with fail
  go_loopw [40] (fun iv wr => ∃ k : Nat, k ≤ n ∧ iv = .int .i64 k ∧ Hid (∀ j, j < k → L.getD j [] = [] ∨ qp n f j < m) ∧ Hid (Blk wr w.heap.size 24 (qcs A n c (f : Int) (m : Int))) ∧ Hid (Below w.heap.size w wr)) (fun i _ => n - (intOf i).toNat)
  case atStart => exact ⟨0, Nat.zero_le _, rfl, Lib.hid (fun j hj => absurd hj (Nat.not_lt_zero j)), HK, HB⟩
  case round =>
    clear HB HK
    obtain ⟨k, hk, rfl, HE, HK, HB⟩ := hrel
    by_cases hlt : k < n
    · obtain ⟨g, off, rfl, c0⟩ := (HM.out.later HB.out).row k (by rw [HM.out.len]; exact hlt)
      have HP1 := Lib.hid (fun W => HP.out k W hlt)
      obtain ⟨⟨q0, q1, q2⟩, _⟩ := qcells HK.out
      have i5 : (k : Int) < (n : Int) := by omega
      have i6 : (0 : Int) ≤ (k : Int) := by omega
      by_cases hx : L.getD k [] = []
      · have HE2 : Hid (∀ j, j < k + 1 → L.getD j [] = [] ∨ qp n f j < m) := Lib.hid (fun j hj => by
          by_cases e : j = k
          · rw [e]; exact .inl hx
          · exact HE.out j (by omega))
        rw [hx] at c0
        clear hx
        go_wp2_with fail
        go_quiet (fail)
        go_wp2
        exact ⟨⟨k + 1, by omega, by go_num, HE2, HK, Lib.hid (qdrew HB.out _)⟩, by simp [intOf]; omega⟩
      · have HXN := Lib.hid hx
        obtain ⟨t, ht⟩ : ∃ t, L.getD k [] = t := ⟨_, rfl⟩
        rw [ht] at c0 hx
        have hx1 : (t == []) = false := by simpa using hx
        have hx2 : (t != []) = true := by simp [bne, hx1]
        obtain ⟨p, hp⟩ : ∃ p, qp n f k = p := ⟨_, rfl⟩
        rw [hp] at HP1
        have HPP := Lib.hid hp
        clear hx hp ht
        by_cases hpm : p < m
        · have HE2 : Hid (∀ j, j < k + 1 → L.getD j [] = [] ∨ qp n f j < m) := Lib.hid (fun j hj => by
            by_cases e : j = k
            · rw [e]; exact .inr (by rw [HPP.out]; exact hpm)
            · exact HE.out j (by omega))
          have i7 : (p : Int) < (m : Int) := by omega
          clear hpm
          go_wp2_with fail
          go_region_held3 (fun W => (W.cell? ⟨w.heap.size, 0, none⟩ = some (.slice (some ⟨g, off, none⟩) n c) ∧ W.cell? ⟨w.heap.size, 1, none⟩ = some (.int .i64 (f : Int)) ∧ W.cell? ⟨w.heap.size, 2, none⟩ = some (.int .i64 (m : Int))) ∧ Below wr.heap.size wr W) (first | assumption | exact ⟨⟨q0, q1, q2⟩, (Below.refl _ _).drew⟩ | exact ⟨⟨q0, q1, q2⟩, Below.refl _ _⟩) (first
            | (go_at_call 22; (with_reducible refine (HP1.out _).mono ?_); rintro e w7 ⟨rfl, hb7⟩; have hB7 := bt (Below.refl wr.heap.size wr).drew hb7; have hS7 : _ ∧ Below wr.heap.size wr w7 := ⟨(qcells (HK.out.below hB7)).1, hB7⟩))
          have HK2 := Lib.hid (HK.out.below hB7)
          have HB2 := Lib.hid (bt HB.out hB7)
          go_wp2
          exact ⟨⟨k + 1, by omega, by go_num, HE2, HK2, HB2⟩, by simp [intOf]; omega⟩
        · have HN : Hid (decide (∀ j, j < n → L.getD j [] = [] ∨ qp n f j < m) = false) := Lib.hid (by
            rw [decide_eq_false_iff_not]
            intro h
            rcases h k hlt with h | h
            · exact HXN.out h
            · rw [HPP.out] at h; exact hpm h)
          have i7 : (m : Int) ≤ (p : Int) := by omega
          clear hpm
          go_wp2_with fail
          go_region_held3 (fun W => (W.cell? ⟨w.heap.size, 0, none⟩ = some (.slice (some ⟨g, off, none⟩) n c) ∧ W.cell? ⟨w.heap.size, 1, none⟩ = some (.int .i64 (f : Int)) ∧ W.cell? ⟨w.heap.size, 2, none⟩ = some (.int .i64 (m : Int))) ∧ Below wr.heap.size wr W) (first | assumption | exact ⟨⟨q0, q1, q2⟩, (Below.refl _ _).drew⟩ | exact ⟨⟨q0, q1, q2⟩, Below.refl _ _⟩) (first
            | (go_at_call 22; (with_reducible refine (HP1.out _).mono ?_); rintro e w7 ⟨rfl, hb7⟩; have hB7 := bt (Below.refl wr.heap.size wr).drew hb7; have hS7 : _ ∧ Below wr.heap.size wr w7 := ⟨(qcells (HK.out.below hB7)).1, hB7⟩))
          have HB2 := Lib.hid (bt HB.out hB7)
          go_wp2
          go_ret
          rw [HN.out]
          exact ⟨rfl, HB2.out⟩
    · obtain rfl : k = n := by omega
      have HY : Hid (decide (∀ j, j < k → L.getD j [] = [] ∨ qp k f j < m) = true) := Lib.hid (by rw [decide_eq_true_iff]; exact HE.out)
      go_wp2
      go_ret
      rw [HY.out]
      exact ⟨rfl, HB.out⟩

/-- The reference's Right, of any ring that can be read. -/
theorem qrright_any (A : Option Addr) (n c : Nat) (f m : Int) (L : List (List UInt8)) (w : World) (hM : QM w A n c L) :
    Calls Try.prog 9 #[qv A n c f m] w fun e w' => e = .returned (.bool (qright L f m)) ∧ Below w.heap.size w w' := by
  have hl := hM.len
  by_cases hg : ((1 ≤ n ∧ n ≤ 64) ∧ (0 ≤ f ∧ f < (n : Int)) ∧ (0 ≤ m ∧ m ≤ (n : Int)))
  · obtain ⟨⟨h1, h2⟩, ⟨h3, h4⟩, h5, h6⟩ := hg
    obtain ⟨a, rfl⟩ : ∃ a : Nat, f = (a : Int) := ⟨f.toNat, by omega⟩
    obtain ⟨b, rfl⟩ : ∃ b : Nat, m = (b : Int) := ⟨m.toNat, by omega⟩
    refine (qrright_good A n c a b L w hM h1 h2 (by omega) (by omega)).mono ?_
    rintro e w' ⟨rfl, hb⟩
    refine ⟨?_, hb⟩
    congr 2
    unfold qright
    subst hl
    rw [Int.toNat_natCast, Int.toNat_natCast, decide_eq_decide, ← QR.slot h1 (by omega)]
    exact ⟨fun h => ⟨⟨h1, h2⟩, ⟨h3, h4⟩, ⟨h5, h6⟩, h⟩, fun h => h.2.2.2⟩
  · have hr : qright L f m = false := by
      unfold qright
      rw [decide_eq_false_iff_not, hl]
      exact fun h => hg ⟨h.1, h.2.1, h.2.2.1⟩
    rw [hr]
    exact qrright_bad A n c f m w (by omega)
end Go.Proofs.Ytnehodipblabbaa
