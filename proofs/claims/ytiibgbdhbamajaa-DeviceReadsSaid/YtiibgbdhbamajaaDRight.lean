/- The contracts of fits, has and Right. -/
import Derived.Test.YtiibgbdhbamajaaDRow
namespace Go.Proofs.Ytiibgbdhbamajaa
open Go.RowKit

theorem dsize (s : List UInt8) : (⟨s.toArray⟩ : ByteArray).size = s.length := by simp [ByteArray.size]

set_option maxRecDepth 100000 in
set_option maxHeartbeats 1000000 in
theorem fits_any (l : List UInt8) (w : World) :
    Calls Try.prog 22 #[sv l] w fun e w' => e = .returned (.bool (decide (l.length ≤ 128))) ∧ w = w' := by
  have hz := dsize l
  obtain ⟨n, hn⟩ : ∃ n, l.length = n := ⟨_, rfl⟩
  rw [hn] at hz ⊢
  clear hn
  have hd : decide ((n : Int) ≤ 128) = decide (n ≤ 128) := by by_cases h : n ≤ 128 <;> simp [h] <;> omega
  go_enter Try.func22, Try.ntmps22
  go_wp2
  go_ret
  exact ⟨rfl, rfl⟩

set_option maxRecDepth 100000 in
set_option maxHeartbeats 1000000 in
theorem has_any (A B : Option Addr) (n c m d : Nat) (k : Int) (w : World) :
    Calls Try.prog 23 #[dv A n c B m d, .int .i64 k] w fun e w' => e = .returned (.bool (hasB n k)) ∧ Below w.heap.size w w' := by
  by_cases h0 : 0 ≤ k
  · have hh : hasB n k = decide (k < (n : Int)) := by simp [hasB, h0]
    rw [hh]
    clear hh
    go_enter Try.func23, Try.ntmps23
    go_wp2
    go_ret
    exact ⟨rfl, ba (Below.refl _ _) _⟩
  · have hh : hasB n k = false := by simp [hasB]; omega
    rw [hh]
    clear hh
    go_enter Try.func23, Try.ntmps23
    go_wp2
    go_ret
    exact ⟨rfl, ba (Below.refl _ _) _⟩

theorem rightB_sizes {S : List (List UInt8)} {C : List PutL} (h : ¬ (1 ≤ S.length ∧ S.length ≤ 64 ∧ C.length ≤ 60)) : rightB S C = false := by
  rw [Bool.eq_false_iff]
  intro hr
  have := rightB_yes hr
  exact h ⟨this.1, this.2.1, this.2.2.1⟩
theorem rightB_text {S : List (List UInt8)} {C : List PutL} (j : Nat) (hj : j < S.length) (h : ¬ (S.getD j []).length ≤ 128) : rightB S C = false := by
  rw [Bool.eq_false_iff]
  intro hr
  exact h ((rightB_yes hr).2.2.2.1 _ (by simp [List.getD, hj]))
theorem rightB_put {S : List (List UInt8)} {C : List PutL} (j : Nat) (hj : j < C.length) (h : okB S.length (C.getD j (0, [])) = false) : rightB S C = false := by
  rw [Bool.eq_false_iff]
  intro hr
  have := (rightB_yes hr).2.2.2.2 (C.getD j (0, [])) (by simp [List.getD, hj])
  generalize C.getD j (0, []) = x at h this
  simp [okB, hasB, this] at h
theorem rightB_all {S : List (List UInt8)} {C : List PutL} (h1 : 1 ≤ S.length ∧ S.length ≤ 64 ∧ C.length ≤ 60) (h2 : ∀ j, j < S.length → (S.getD j []).length ≤ 128) (h3 : ∀ j, j < C.length → okB S.length (C.getD j (0, [])) = true) : rightB S C = true := by
  have a := getD_all (fun s => decide (s.length ≤ 128)) [] S (fun j hj => by simpa using h2 j hj)
  have b := getD_all (okB S.length) (0, []) C h3
  simp only [rightB, h1, a, b]
  simp

set_option maxRecDepth 100000 in
set_option maxHeartbeats 2000000 in
theorem right_sizes (A B : Option Addr) (n c m d : Nat) (w : World) (h : ¬ (1 ≤ n ∧ n ≤ 64 ∧ m ≤ 60)) :
    Calls Try.prog 9 #[dv A n c B m d] w fun e w' => e = .returned (.bool false) ∧ Below w.heap.size w w' := by
  rcases (show n < 1 ∨ (1 ≤ n ∧ 64 < n) ∨ (1 ≤ n ∧ n ≤ 64 ∧ 60 < m) by omega) with h1 | ⟨h1, h2⟩ | ⟨h1, h2, h3⟩
  all_goals
    clear h
    go_enter Try.func9, Try.ntmps9
    go_wp2
    go_ret
    exact ⟨rfl, ba (Below.refl _ _) _⟩

set_option maxRecDepth 100000 in
set_option maxHeartbeats 4000000 in
theorem right_loops (A B : Option Addr) (c d n m : Nat) (S : List (List UInt8)) (C : List PutL) (w : World) (hA : SR w A S) (hB : PR w B C) (hn : S.length = n) (hm : C.length = m) (h1 : 1 ≤ n) (h2 : n ≤ 64) (h3 : m ≤ 60) :
    Calls Try.prog 9 #[dv A n c B m d] w fun e w' => e = .returned (.bool (rightB S C)) ∧ Below w.heap.size w w' := by
  have HA := Lib.hid hA
  have HB := Lib.hid hB
  have HT : Hid (∀ j, j < n → ¬ (S.getD j []).length ≤ 128 → rightB S C = false) := Lib.hid fun j hj h => rightB_text j (by rw [hn]; exact hj) h
  have HP : Hid (∀ j, j < m → okB n (C.getD j (0, [])) = false → rightB S C = false) := Lib.hid fun j hj h => rightB_put j (by rw [hm]; exact hj) (by rw [hn]; exact h)
  have HY : Hid ((∀ j, j < n → (S.getD j []).length ≤ 128) → (∀ j, j < m → okB n (C.getD j (0, [])) = true) → rightB S C = true) := Lib.hid fun a b => rightB_all (by rw [hn, hm]; exact ⟨h1, h2, h3⟩) (fun j hj => a j (by rw [← hn]; exact hj)) (fun j hj => by rw [hn]; exact b j (by rw [← hm]; exact hj))
  generalize rightB S C = R at HT HP HY ⊢
  have HN := Lib.hid hn
  have HM := Lib.hid hm
  clear hA hB hn hm
  go_enter Try.func9, Try.ntmps9
  go_wp2_with fail
  go_loopw [26] (fun iv wr => ∃ k : Nat, k ≤ n ∧ iv = .int .i64 k ∧ Hid (∀ j, j < k → (S.getD j []).length ≤ 128) ∧ At wr w.heap.size 0 (.slice A n c) ∧ At wr w.heap.size 1 (.slice B m d) ∧ Below w.heap.size w wr) (fun i _ => n - (intOf i).toNat)
  case atStart => exact ⟨0, Nat.zero_le _, rfl, Lib.hid (fun j hj => by omega), At.new _ _ _ rfl, At.new _ _ _ rfl, ba (Below.refl _ _) _⟩
  case round =>
    obtain ⟨k, hk, rfl, HJ, a0, a1, hb⟩ := hrel
    by_cases hlt : k < n
    · obtain ⟨g, off, rfl, c0⟩ := (HA.out.later hb) k (by rw [HN.out]; exact hlt)
      have HT1 := Lib.hid (HT.out k hlt)
      have HJ1 : Hid ((S.getD k []).length ≤ 128 → ∀ j, j < k + 1 → (S.getD j []).length ≤ 128) := Lib.hid fun h j hj => by
        by_cases e : j = k
        · rw [e]; exact h
        · exact HJ.out j (by omega)
      generalize S.getD k [] = x at c0 HT1 HJ1
      have HF := Lib.hid (fits_any x wr)
      have i0 : (0 : Int) ≤ (k : Int) := by omega
      have i1 : (k : Int) < (n : Int) := by omega
      by_cases hx : x.length ≤ 128
      · rw [decide_eq_true hx] at HF
        go_wp2_with fail
        refine HF.out.mono ?_
        rintro e w1 ⟨rfl, rfl⟩
        go_wp2
        exact ⟨⟨k + 1, by omega, by go_num, Lib.hid (HJ1.out hx), a0, a1, hb⟩, by simp [intOf]; omega⟩
      · rw [decide_eq_false hx] at HF
        go_wp2_with fail
        refine HF.out.mono ?_
        rintro e w1 ⟨rfl, rfl⟩
        go_wp2
        go_ret
        exact ⟨by rw [HT1.out hx]; rfl, hb⟩
    · obtain rfl : k = n := by omega
      clear HT hlt
      obtain ⟨cc0, ff0⟩ := a0
      obtain ⟨cc1, ff1⟩ := a1
      go_wp2_with fail
      go_loopw [37] (fun iv wi => ∃ j : Nat, j ≤ m ∧ iv = .int .i64 j ∧ Hid (∀ i, i < j → okB k (C.getD i (0, [])) = true) ∧ At wi w.heap.size 0 (.slice A k c) ∧ At wi w.heap.size 1 (.slice B m d) ∧ Below w.heap.size w wi) (fun i _ => m - (intOf i).toNat)
      case atStart => exact ⟨0, Nat.zero_le _, rfl, Lib.hid (fun j hj => by omega), ⟨cc0, ff0⟩, ⟨cc1, ff1⟩, hb⟩
      case round =>
        clear cc0 cc1 ff0 ff1 hb
        obtain ⟨j, hj, rfl, HQ, a0, a1, hb⟩ := hrel
        by_cases hlt : j < m
        · obtain ⟨g, off, rfl, p0, p1⟩ := (HB.out.later hb) j (by rw [HM.out]; exact hlt)
          have HP1 := Lib.hid (HP.out j hlt)
          have HQ1 : Hid (okB k (C.getD j (0, [])) = true → ∀ i, i < j + 1 → okB k (C.getD i (0, [])) = true) := Lib.hid fun h i hi => by
            by_cases e : i = j
            · rw [e]; exact h
            · exact HQ.out i (by omega)
          generalize C.getD j (0, []) = x at p0 p1 HP1 HQ1
          obtain ⟨xk, xs⟩ := x
          simp only at p0 p1
          have HF := Lib.hid (fun W => fits_any xs W)
          have HH := Lib.hid (fun W => has_any A (some ⟨g, off, none⟩) k c m d xk W)
          have i0 : (0 : Int) ≤ (j : Int) := by omega
          have i1 : (j : Int) < (m : Int) := by omega
          obtain ⟨ca0, fa0⟩ := a0.alloc (.cells #[.int .i64 xk, sv xs] 47)
          obtain ⟨ca1, fa1⟩ := a1.alloc (.cells #[.int .i64 xk, sv xs] 47)
          have hok : okB k (xk, xs) = (hasB k xk && decide (xs.length ≤ 128)) := rfl
          have HO := Lib.hid hok
          clear hok
          by_cases hx : hasB k xk = true
          · rw [hx] at HH HO
            by_cases hl : xs.length ≤ 128
            · rw [decide_eq_true hl] at HF HO
              go_wp2_with fail
              refine (HH.out _).mono ?_
              rintro e w1 ⟨rfl, hb1⟩
              have q := cell_later hb1 (show (wr.alloc (.cells #[.int .i64 xk, sv xs] 47)).cell? ⟨wr.heap.size, 1, none⟩ = some (sv xs) by simp)
              go_wp2_with fail
              refine (HF.out _).mono ?_
              rintro e w2 ⟨rfl, rfl⟩
              go_wp2
              exact ⟨⟨j + 1, by omega, by go_num, Lib.hid (HQ1.out HO.out), At.later ⟨ca0, fa0⟩ hb1, At.later ⟨ca1, fa1⟩ hb1, bt (ba hb _) hb1⟩, by simp [intOf]; omega⟩
            · rw [decide_eq_false hl] at HF HO
              go_wp2_with fail
              refine (HH.out _).mono ?_
              rintro e w1 ⟨rfl, hb1⟩
              have q := cell_later hb1 (show (wr.alloc (.cells #[.int .i64 xk, sv xs] 47)).cell? ⟨wr.heap.size, 1, none⟩ = some (sv xs) by simp)
              go_wp2_with fail
              refine (HF.out _).mono ?_
              rintro e w2 ⟨rfl, rfl⟩
              go_wp2
              go_ret
              exact ⟨by rw [HP1.out HO.out]; rfl, bt (ba hb _) hb1⟩
          · rw [Bool.not_eq_true] at hx
            rw [hx] at HH HO
            go_wp2_with fail
            refine (HH.out _).mono ?_
            rintro e w1 ⟨rfl, hb1⟩
            go_wp2
            go_ret
            exact ⟨by rw [HP1.out HO.out]; rfl, bt (ba hb _) hb1⟩
        · obtain rfl : j = m := by omega
          go_wp2
          go_ret
          exact ⟨by rw [HY.out HJ.out HQ.out]; rfl, hb⟩

/-- Right, for any device that can be read. -/
theorem right_any (A B : Option Addr) (c d n m : Nat) (S : List (List UInt8)) (C : List PutL) (w : World) (hA : SR w A S) (hB : PR w B C) (hn : S.length = n) (hm : C.length = m) :
    Calls Try.prog 9 #[dv A n c B m d] w fun e w' => e = .returned (.bool (rightB S C)) ∧ Below w.heap.size w w' := by
  by_cases h : 1 ≤ n ∧ n ≤ 64 ∧ m ≤ 60
  · exact right_loops A B c d n m S C w hA hB hn hm h.1 h.2.1 h.2.2
  · have := right_sizes A B n c m d w h
    rw [← hn, ← hm] at h
    rw [rightB_sizes h]
    exact this
end Go.Proofs.Ytiibgbdhbamajaa
