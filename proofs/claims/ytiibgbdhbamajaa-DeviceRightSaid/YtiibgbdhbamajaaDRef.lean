/- The contracts of the reference's Right and Why. -/
import Derived.Test.YtiibgbdhbamajaaDRight
namespace Go.Proofs.Ytiibgbdhbamajaa
open Go.RowKit

set_option maxRecDepth 100000 in
set_option maxHeartbeats 2000000 in
theorem rright_sizes (A B : Option Addr) (n c m d : Nat) (w : World) (h : ¬ (1 ≤ n ∧ n ≤ 64 ∧ m ≤ 60)) :
    Calls Try.prog 10 #[dv A n c B m d] w fun e w' => e = .returned (.bool false) ∧ Below w.heap.size w w' := by
  rcases (show n < 1 ∨ (1 ≤ n ∧ 64 < n) ∨ (1 ≤ n ∧ n ≤ 64 ∧ 60 < m) by omega) with h1 | ⟨h1, h2⟩ | ⟨h1, h2, h3⟩
  all_goals
    clear h
    go_enter Try.func10, Try.ntmps10
    go_wp2
    go_ret
    exact ⟨rfl, ba (Below.refl _ _) _⟩

set_option maxRecDepth 100000 in
set_option maxHeartbeats 4000000 in
theorem rright_loops (A B : Option Addr) (c d n m : Nat) (S : List (List UInt8)) (C : List PutL) (w : World) (hA : SR w A S) (hB : PR w B C) (hn : S.length = n) (hm : C.length = m) (h1 : 1 ≤ n) (h2 : n ≤ 64) (h3 : m ≤ 60) :
    Calls Try.prog 10 #[dv A n c B m d] w fun e w' => e = .returned (.bool (rightB S C)) ∧ Below w.heap.size w w' := by
  have HA := Lib.hid hA
  have HB := Lib.hid hB
  have HT : Hid (∀ j, j < n → ¬ (S.getD j []).length ≤ 128 → rightB S C = false) := Lib.hid fun j hj h => rightB_text j (by rw [hn]; exact hj) h
  have HP : Hid (∀ j, j < m → okB n (C.getD j (0, [])) = false → rightB S C = false) := Lib.hid fun j hj h => rightB_put j (by rw [hm]; exact hj) (by rw [hn]; exact h)
  have HY : Hid ((∀ j, j < n → (S.getD j []).length ≤ 128) → (∀ j, j < m → okB n (C.getD j (0, [])) = true) → rightB S C = true) := Lib.hid fun a b => rightB_all (by rw [hn, hm]; exact ⟨h1, h2, h3⟩) (fun j hj => a j (by rw [← hn]; exact hj)) (fun j hj => by rw [hn]; exact b j (by rw [← hm]; exact hj))
  generalize rightB S C = R at HT HP HY ⊢
  have HN := Lib.hid hn
  have HM := Lib.hid hm
  clear hA hB hn hm
  go_enter Try.func10, Try.ntmps10
  go_wp2_with fail
  go_loopw [26] (fun iv wr => ∃ k : Nat, k ≤ n ∧ iv = .int .i64 k ∧ Hid (∀ j, j < k → (S.getD j []).length ≤ 128) ∧ At wr w.heap.size 0 (.slice A n c) ∧ At wr w.heap.size 1 (.slice B m d) ∧ Below w.heap.size w wr) (fun i _ => n - (intOf i).toNat)
  case atStart => exact ⟨0, Nat.zero_le _, rfl, Lib.hid (fun j hj => by omega), At.new _ _ _ rfl, At.new _ _ _ rfl, ba (Below.refl _ _) _⟩
  case round =>
    obtain ⟨k, hk, rfl, HJ, a0, a1, hb⟩ := hrel
    by_cases hlt : k < n
    · obtain ⟨g, off, rfl, c0⟩ := (HA.out.later hb) k (by rw [HN.out]; exact hlt)
      have HT1 := Lib.hid (HT.out k hlt)
      have HJ1 : Hid ((S.getD k []).length ≤ 128 → ∀ j, j < k + 1 → (S.getD j []).length ≤ 128) := Lib.hid fun h j hj => by
        by_cases e : j = k
        · rw [e]; exact h
        · exact HJ.out j (by omega)
      generalize S.getD k [] = x at c0 HT1 HJ1
      have hz := dsize x
      have i0 : (0 : Int) ≤ (k : Int) := by omega
      have i1 : (k : Int) < (n : Int) := by omega
      by_cases hx : x.length ≤ 128
      · have HJ2 := Lib.hid (HJ1.out hx)
        clear HJ1 HT1
        obtain ⟨z, hz2⟩ : ∃ z, x.length = z := ⟨_, rfl⟩
        rw [hz2] at hz hx
        clear hz2
        have hd : (z : Int) ≤ 128 := by omega
        go_wp2
        exact ⟨⟨k + 1, by omega, by go_num, HJ2, a0, a1, hb⟩, by simp [intOf]; omega⟩
      · have HT2 := Lib.hid (HT1.out hx)
        clear HJ1 HT1
        obtain ⟨z, hz2⟩ : ∃ z, x.length = z := ⟨_, rfl⟩
        rw [hz2] at hz hx
        clear hz2
        have hd : 128 < (z : Int) := by omega
        go_wp2
        go_ret
        exact ⟨by rw [HT2.out]; rfl, hb⟩
    · obtain rfl : k = n := by omega
      clear HT hlt
      obtain ⟨cc0, ff0⟩ := a0
      obtain ⟨cc1, ff1⟩ := a1
      go_wp2_with fail
      go_loopw [37] (fun iv wi => ∃ j : Nat, j ≤ m ∧ iv = .int .i64 j ∧ Hid (∀ i, i < j → okB k (C.getD i (0, [])) = true) ∧ At wi w.heap.size 0 (.slice A k c) ∧ At wi w.heap.size 1 (.slice B m d) ∧ Below w.heap.size w wi) (fun i _ => m - (intOf i).toNat)
      case atStart => exact ⟨0, Nat.zero_le _, rfl, Lib.hid (fun j hj => by omega), ⟨cc0, ff0⟩, ⟨cc1, ff1⟩, hb⟩
      case round =>
        clear cc0 cc1 ff0 ff1 hb
        obtain ⟨j, hj, rfl, HQ, a0, a1, hb⟩ := hrel
        by_cases hlt : j < m
        · obtain ⟨g, off, rfl, p0, p1⟩ := (HB.out.later hb) j (by rw [HM.out]; exact hlt)
          have HP1 := Lib.hid (HP.out j hlt)
          have HQ1 : Hid (okB k (C.getD j (0, [])) = true → ∀ i, i < j + 1 → okB k (C.getD i (0, [])) = true) := Lib.hid fun h i hi => by
            by_cases e : i = j
            · rw [e]; exact h
            · exact HQ.out i (by omega)
          generalize C.getD j (0, []) = x at p0 p1 HP1 HQ1
          obtain ⟨xk, xs⟩ := x
          simp only at p0 p1
          have hz := dsize xs
          have i0 : (0 : Int) ≤ (j : Int) := by omega
          have i1 : (j : Int) < (m : Int) := by omega
          obtain ⟨ca0, fa0⟩ := a0.alloc (.cells #[.int .i64 xk, sv xs] 47)
          obtain ⟨ca1, fa1⟩ := a1.alloc (.cells #[.int .i64 xk, sv xs] 47)
          have HO : Hid (okB k (xk, xs) = (hasB k xk && decide (xs.length ≤ 128))) := Lib.hid rfl
          have HH := Lib.hid (hasB_iff k xk)
          obtain ⟨z, hz2⟩ : ∃ z, xs.length = z := ⟨_, rfl⟩
          rw [hz2] at hz HO
          clear hz2
          rcases (show xk < 0 ∨ (0 ≤ xk ∧ (k : Int) ≤ xk) ∨ (0 ≤ xk ∧ xk < (k : Int) ∧ 128 < (z : Int)) ∨ (0 ≤ xk ∧ xk < (k : Int) ∧ (z : Int) ≤ 128) by omega) with hx | ⟨hx, hy⟩ | ⟨hx, hy, hl⟩ | ⟨hx, hy, hl⟩
          · have HP2 := Lib.hid (HP1.out (by rw [HO.out, (hasB_not k xk).2 (by omega)]; rfl))
            clear HP1 HQ1
            go_wp2
            go_ret
            exact ⟨by rw [HP2.out]; rfl, ba hb _⟩
          · have HP2 := Lib.hid (HP1.out (by rw [HO.out, (hasB_not k xk).2 (by omega)]; rfl))
            clear HP1 HQ1
            go_wp2
            go_ret
            exact ⟨by rw [HP2.out]; rfl, ba hb _⟩
          · have HP2 := Lib.hid (HP1.out (by rw [HO.out, decide_eq_false (by omega)]; simp))
            clear HP1 HQ1
            go_wp2
            go_ret
            exact ⟨by rw [HP2.out]; rfl, ba hb _⟩
          · have HQ2 := Lib.hid (HQ1.out (by rw [HO.out, HH.out.2 ⟨hx, hy⟩, decide_eq_true (by omega)]; rfl))
            clear HP1 HQ1
            go_wp2
            exact ⟨⟨j + 1, by omega, by go_num, HQ2, ⟨ca0, fa0⟩, ⟨ca1, fa1⟩, ba hb _⟩, by simp [intOf]; omega⟩
        · obtain rfl : j = m := by omega
          go_wp2
          go_ret
          exact ⟨by rw [HY.out HJ.out HQ.out]; rfl, hb⟩

theorem rright_any (A B : Option Addr) (c d n m : Nat) (S : List (List UInt8)) (C : List PutL) (w : World) (hA : SR w A S) (hB : PR w B C) (hn : S.length = n) (hm : C.length = m) :
    Calls Try.prog 10 #[dv A n c B m d] w fun e w' => e = .returned (.bool (rightB S C)) ∧ Below w.heap.size w w' := by
  by_cases h : 1 ≤ n ∧ n ≤ 64 ∧ m ≤ 60
  · exact rright_loops A B c d n m S C w hA hB hn hm h.1 h.2.1 h.2.2
  · have := rright_sizes A B n c m d w h
    rw [← hn, ← hm] at h
    rw [rightB_sizes h]
    exact this

/-- Why a sector may not be asked for. -/
def whyD (S : List (List UInt8)) (C : List PutL) (k : Int) : Int := if rightB S C then (if hasB S.length k then 0 else 2) else 1

set_option maxRecDepth 100000 in
set_option maxHeartbeats 2000000 in
theorem rwhy_any (A B : Option Addr) (c d n m : Nat) (S : List (List UInt8)) (C : List PutL) (k : Int) (w : World) (hA : SR w A S) (hB : PR w B C) (hn : S.length = n) (hm : C.length = m) :
    Calls Try.prog 16 #[dv A n c B m d, .int .i64 k] w fun e w' => e = .returned (.int .i64 (whyD S C k)) ∧ Below w.heap.size w w' := by
  have HR := Lib.hid (rright_any A B c d n m S C (w.alloc (.cells #[.slice A n c, .slice B m d] 25)) (hA.later (ba (Below.refl _ _) _)) (hB.later (ba (Below.refl _ _) _)) hn hm)
  have HW : Hid (whyD S C k = if rightB S C then (if hasB n k then 0 else 2) else 1) := Lib.hid (by rw [whyD, hn])
  generalize whyD S C k = y at HW ⊢
  clear hA hB hn hm
  have a0 := At.new w #[.slice A n c, .slice B m d] 25 (o := 0) rfl
  cases hr : rightB S C with
  | false =>
    rw [hr] at HR HW
    go_enter Try.func16, Try.ntmps16
    go_wp2_with fail
    refine HR.out.mono ?_
    rintro e w1 ⟨rfl, hb1⟩
    go_wp2
    go_ret
    exact ⟨by rw [HW.out]; rfl, bt (ba (Below.refl _ _) _) hb1⟩
  | true =>
    rw [hr] at HR HW
    rcases (show k < 0 ∨ (0 ≤ k ∧ (n : Int) ≤ k) ∨ (0 ≤ k ∧ k < (n : Int)) by omega) with hx | ⟨hx, hy⟩ | ⟨hx, hy⟩
    · rw [(hasB_not n k).2 (by omega)] at HW
      go_enter Try.func16, Try.ntmps16
      go_wp2_with fail
      refine HR.out.mono ?_
      rintro e w1 ⟨rfl, hb1⟩
      go_wp2
      go_ret
      exact ⟨by rw [HW.out]; rfl, bt (ba (Below.refl _ _) _) hb1⟩
    · rw [(hasB_not n k).2 (by omega)] at HW
      go_enter Try.func16, Try.ntmps16
      go_wp2_with fail
      refine HR.out.mono ?_
      rintro e w1 ⟨rfl, hb1⟩
      have c0 := (a0.later hb1).1
      go_wp2
      go_ret
      exact ⟨by rw [HW.out]; rfl, bt (ba (Below.refl _ _) _) hb1⟩
    · rw [(hasB_iff n k).2 (by omega)] at HW
      go_enter Try.func16, Try.ntmps16
      go_wp2_with fail
      refine HR.out.mono ?_
      rintro e w1 ⟨rfl, hb1⟩
      have c0 := (a0.later hb1).1
      go_wp2
      go_ret
      exact ⟨by rw [HW.out]; rfl, bt (ba (Below.refl _ _) _) hb1⟩
end Go.Proofs.Ytiibgbdhbamajaa
