/- The contracts of slices.Clone and slices.Equal of rows of words. -/
import Derived.Test.YthknelpcdoebiaaZRow
namespace Go.Proofs.Ythknelpcdoebiaa
open Go.RowKit

theorem zgetD_same {L M : List Nat} {n : Nat} (hl : L.length = n) (hm : M.length = n) (h : ∀ j, j < n → L.getD j 0 = M.getD j 0) : L = M := by
  apply List.ext_getElem
  · rw [hl, hm]
  · intro i h1 h2
    have := h i (by omega)
    simpa [List.getD, h1, h2] using this

theorem zdown_nil {W : World} {t : TypeId} {g base size : Nat} (h : Blk W g t #[]) (hb : base ≤ g) : W.ownsRow base t size (.slice (some ⟨g, 0, none⟩) 0 0) 0 [] :=
  ⟨by simp, .inr ⟨g, 0, #[], rfl, hb, h, Nat.le_refl _, Nat.zero_le _, by simp, by simp⟩⟩

set_option maxRecDepth 100000 in
set_option maxHeartbeats 1000000 in
theorem zclone_any (A : Option Addr) (c n : Nat) (L : List Nat) (w : World) (hA : ZRow w A L) (hl : L.length = n) (h0 : A = none → c = 0) (hn : n ≤ 65536) :
    Calls Try.prog 31 #[.slice A n c] w fun e w' => ∃ A' c', e = .returned (.slice A' n c') ∧ w'.ownsRow w.heap.size 23 1 (.slice A' n c') n (L.map zq) ∧ Below w.heap.size w w' := by
  cases A with
  | none =>
    have hL : L = [] := by
      cases L with
      | nil => rfl
      | cons x r => obtain ⟨g, off, e, _⟩ := hA 0 (by simp); cases e
    subst hL
    subst hl
    rw [h0 rfl]
    clear h0 hA
    go_enter Try.func31, Try.ntmps31
    have hq := fun (w : World) => Lib.run_eql_slice_nil (P := Try.prog) w 22 23 none 0 0 0 0 Try.underlying22
    go_wp2
    go_ret
    exact ⟨none, 0, rfl, World.ownsRow_nil _ _ _ _, Below.refl _ _⟩
  | some a =>
    clear h0
    obtain ⟨ti, hi, hz0, hz1, hz2⟩ := info_parts infoZ
    have HC := Lib.hid ((hA.later (ba (Below.refl w.heap.size w) (.cells #[] 23))).cells)
    have HO : Hid ((w.alloc (.cells #[] 23)).ownsRow w.heap.size 23 1 (.slice (some ⟨w.heap.size, 0, none⟩) 0 0) 0 []) := Lib.hid (zdown_nil (Blk.new w _ _) (Nat.le_refl _))
    have HL : Hid ((L.map zq).length = n * 1) := Lib.hid (by simp [hl])
    have H1 := Lib.hid (zqs_one L)
    clear hA hl
    go_enter Try.func31, Try.ntmps31
    have hq := fun (w : World) => Lib.run_eql_slice_nil (P := Try.prog) w 22 23 (some a) n c 0 0 Try.underlying22
    go_wp2_with (at_builtin; refine wpList_append_own _ rfl _ _ 22 rfl w.heap.size 23 ti _ 1 8 Try.underlying22 hi hz0 hz1 hz2 rfl (by decide) _ _ _ rfl HO.out a n c (L.map zq) rfl HL.out HC.out H1.out (by unfold maxLen; omega) (by omega) (by simp) ?_; intro v3 w3 hown3 hgrow3 _)
    rw [Nat.zero_add] at hown3
    obtain ⟨va, vc, rfl, _⟩ := own_form hown3
    go_ret
    refine ⟨va, vc, rfl, ?_, (ba (Below.refl _ _) _).grown hgrow3 (by simp) (fun k e => (HO.out.lt k e).1)⟩
    simpa using hown3

set_option maxRecDepth 100000 in
set_option maxHeartbeats 4000000 in
theorem zeq_any (A B : Option Addr) (c d n m : Nat) (L M : List Nat) (w : World) (hA : ZRow w A L) (hB : ZRow w B M) (hl : L.length = n) (hm : M.length = m) (hn : n ≤ 65536) (hn2 : m ≤ 65536) :
    Calls Try.prog 29 #[.slice A n c, .slice B m d] w fun e w' => e = .returned (.bool (decide (L = M))) ∧ Below w.heap.size w w' := by
  have HA := Lib.hid hA
  have HB := Lib.hid hB
  have HL := Lib.hid hl
  have HM := Lib.hid hm
  clear hA hB hl hm
  by_cases hnm : n = m
  · subst hnm
    clear hn2
    go_enter Try.func29, Try.ntmps29
    go_wp2_with fail
    go_loopw [13] (fun iv wr => ∃ k : Nat, k ≤ n ∧ iv = .int .i64 k ∧ Hid (∀ j, j < k → L.getD j 0 = M.getD j 0) ∧ Below w.heap.size w wr) (fun i _ => n - (intOf i).toNat)
    case atStart => exact ⟨0, Nat.zero_le _, rfl, Lib.hid (fun j hj => absurd hj (Nat.not_lt_zero j)), Below.refl _ _⟩
    case round =>
      obtain ⟨k, hk, rfl, HE, hb⟩ := hrel
      by_cases hlt : k < n
      · obtain ⟨g, off, rfl, c0⟩ := (HA.out.later hb) k (by rw [HL.out]; exact hlt)
        obtain ⟨g', off', rfl, d0⟩ := (HB.out.later hb) k (by rw [HM.out]; exact hlt)
        have i0 : (0 : Int) ≤ (k : Int) := by omega
        have i1 : (k : Int) < (n : Int) := by omega
        by_cases hxy : L.getD k 0 = M.getD k 0
        · have HE2 : Hid (∀ j, j < k + 1 → L.getD j 0 = M.getD j 0) := Lib.hid (fun j hj => by
            by_cases e : j = k
            · rw [e]; exact hxy
            · exact HE.out j (by omega))
          rw [← hxy] at d0
          clear hxy
          generalize L.getD k 0 = x at c0 d0
          go_wp2_with fail
          go_quiet (fail)
          go_wp2
          exact ⟨⟨k + 1, by omega, by go_num, HE2, zdrew hb _⟩, by simp [intOf]; omega⟩
        · have HN : Hid (decide (L = M) = false) := Lib.hid (by simp; intro e; exact hxy (by rw [e]))
          generalize L.getD k 0 = x at c0 hxy
          generalize M.getD k 0 = y at d0 hxy
          have hx : ((x : Int) == (y : Int)) = false := by simp only [beq_eq_false_iff_ne]; omega
          have hx2 : ((x : Int) != (y : Int)) = true := by simp only [bne, hx, Bool.not_false]
          clear hxy
          go_wp2_with fail
          go_quiet (fail)
          go_wp2
          go_ret
          rw [HN.out]
          exact ⟨rfl, zdrew hb _⟩
      · obtain rfl : k = n := by omega
        have HY : Hid (decide (L = M) = true) := Lib.hid (by simp; exact zgetD_same HL.out HM.out HE.out)
        go_wp2
        go_ret
        rw [HY.out]
        exact ⟨rfl, hb⟩
  · have HN : Hid (decide (L = M) = false) := Lib.hid (by simp; intro e; exact hnm (by rw [← HL.out, ← HM.out, e]))
    have h1 : (n == m) = false := by simp; exact hnm
    have h2 : ((n : Int) == (m : Int)) = false := by simp; omega
    have h3 : ((n : Int) != (m : Int)) = true := by simp; omega
    clear hnm
    go_enter Try.func29, Try.ntmps29
    go_wp2_with fail
    go_ret
    rw [HN.out]
    exact ⟨rfl, Below.refl _ _⟩

end Go.Proofs.Ythknelpcdoebiaa
