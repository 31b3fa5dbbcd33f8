/- The contracts of the reference's Count and Find. -/
import Derived.Test.YthknelpcdoebiaaZGetC
namespace Go.Proofs.Ythknelpcdoebiaa
open Go.RowKit

set_option maxRecDepth 100000 in
set_option maxHeartbeats 2000000 in
theorem rcount_walk (k : Nat) (A : Option Addr) (n c F : Nat) (L : List Nat) (w : World) (hk : k ≤ 4096) (h3 : k ≤ 64 * n)
    (HT : Hid (∀ W (i : Nat), i < 64 * n → Below w.heap.size w W → Calls Try.prog 17 #[zbv (k : Int) A n c F, .int .i64 (i : Int)] W fun e w' => e = .returned (.bool (ztk L i)) ∧ Below W.heap.size W w')) :
    Calls Try.prog 21 #[zbv (k : Int) A n c F] w fun e w' => e = .returned (.int .i64 ((zcount k L : Nat) : Int)) ∧ Below w.heap.size w w' := by
  have HB := Lib.hid (zbox_below w k A n c F)
  have HK := Lib.hid (zbox_blk w k A n c F)
  go_enter Try.func21, Try.ntmps21
  go_wp2_with fail
  go_loopw [3, 4] (fun sv iv wr => ∃ i s : Nat, i ≤ k ∧ iv = .int .i64 i ∧ sv = .int .i64 s ∧ Hid (s = zcnt i (ztk L)) ∧ Hid (Below w.heap.size w wr) ∧ Hid (Blk wr w.heap.size 25 (zcs k A n c F))) (fun _ iv _ => k - (intOf iv).toNat)
  case atStart => exact ⟨0, 0, Nat.zero_le _, rfl, rfl, Lib.hid rfl, HB, HK⟩
  case round =>
    clear HB HK
    obtain ⟨i, s, hi, rfl, rfl, HS, HB, HK⟩ := hrel
    obtain ⟨⟨q0, q1, q2⟩, _⟩ := zcells HK.out
    have hs : s ≤ i := by rw [HS.out]; exact zcnt_le _ _
    by_cases hlt : i < k
    · have hli : (i : Int) < (k : Int) := by omega
      go_wp2_with fail
      refine (HT.out _ i (by omega) HB.out).mono ?_
      rintro e2 w2 ⟨rfl, hb2⟩
      have B2 := Lib.hid (bt HB.out hb2)
      have K2 := Lib.hid (HK.out.below hb2)
      clear hb2 q0 q1 q2 HB HK
      cases hT : ztk L i with
      | true =>
        go_wp2_with fail
        exact ⟨⟨i + 1, s + 1, by omega, by go_num, by go_num, Lib.hid (by rw [zcnt, ← HS.out, hT]; rfl), B2, K2⟩, by simp [intOf]; omega⟩
      | false =>
        go_wp2_with fail
        exact ⟨⟨i + 1, s, by omega, by go_num, rfl, Lib.hid (by rw [zcnt, ← HS.out, hT]; rfl), B2, K2⟩, by simp [intOf]; omega⟩
    · obtain rfl : i = k := by omega
      go_wp2
      go_ret
      unfold zcount
      rw [HS.out]
      exact ⟨rfl, HB.out⟩

theorem rcount_any (k : Nat) (A : Option Addr) (n c F : Nat) (L : List Nat) (w : World) (hM : ZM w A n c L F) (hr : ZR k L F) :
    Calls Try.prog 21 #[zbv (k : Int) A n c F] w fun e w' => e = .returned (.int .i64 ((zcount k L : Nat) : Int)) ∧ Below w.heap.size w w' := by
  have h6 := hr.len64
  have hl := hM.len
  have h4 := hr.hi
  exact rcount_walk k A n c F L w h4 (by omega) (Lib.hid fun W i hi hb => taken_any k A n c F L i W (hM.later hb) hi)

/-- What is found, as a number. -/
def zfi : Option Nat → Int
  | some s => (s : Int)
  | none => -1

set_option maxRecDepth 100000 in
set_option maxHeartbeats 2000000 in
theorem rfind_walk (k : Nat) (A : Option Addr) (n c F many : Nat) (L : List Nat) (w : World) (hk : k ≤ 4096) (h3 : k ≤ 64 * n) (hm1 : 1 ≤ many) (hm2 : (many : Int) ≤ 9223372036854775807)
    (HT : Hid (∀ W (i : Nat), i < 64 * n → Below w.heap.size w W → Calls Try.prog 17 #[zbv (k : Int) A n c F, .int .i64 (i : Int)] W fun e w' => e = .returned (.bool (ztk L i)) ∧ Below W.heap.size W w')) :
    Calls Try.prog 22 #[zbv (k : Int) A n c F, .int .i64 (many : Int)] w fun e w' => e = .returned (.int .i64 (zfi (zfind k (ztk L) many))) ∧ Below w.heap.size w w' := by
  have HB := Lib.hid (zbox_below w k A n c F)
  have HK := Lib.hid (zbox_blk w k A n c F)
  have m0 : ((0 : Int) == (many : Int)) = false := by simp only [beq_eq_false_iff_ne]; omega
  go_enter Try.func22, Try.ntmps22
  go_wp2_with fail
  go_loopw [5, 6] (fun rv iv wr => ∃ i r : Nat, i ≤ k ∧ r ≤ i ∧ r < many ∧ iv = .int .i64 i ∧ rv = .int .i64 r ∧ Hid (zblocked k (ztk L) many (i - r)) ∧ Hid (∀ t, i - r ≤ t → t < i → ztk L t = false) ∧ Hid (Below w.heap.size w wr) ∧ Hid (Blk wr w.heap.size 25 (zcs k A n c F))) (fun _ iv _ => k - (intOf iv).toNat)
  case atStart => exact ⟨0, 0, Nat.zero_le _, Nat.le_refl _, hm1, rfl, rfl, Lib.hid (fun t ht => absurd ht (Nat.not_lt_zero t)), Lib.hid (fun t _ ht => absurd ht (Nat.not_lt_zero t)), HB, HK⟩
  case round =>
    clear HB HK
    obtain ⟨i, r, hi, hri, hrm, rfl, rfl, HX, HY, HB, HK⟩ := hrel
    obtain ⟨⟨q0, q1, q2⟩, _⟩ := zcells HK.out
    by_cases hlt : i < k
    · have hli : (i : Int) < (k : Int) := by omega
      go_wp2_with fail
      refine (HT.out _ i (by omega) HB.out).mono ?_
      rintro e2 w2 ⟨rfl, hb2⟩
      have B2 := Lib.hid (bt HB.out hb2)
      have K2 := Lib.hid (HK.out.below hb2)
      clear hb2 q0 q1 q2 HB HK
      cases hT : ztk L i with
      | true =>
        have HX2 : Hid (zblocked k (ztk L) many (i + 1 - 0)) := Lib.hid (zblocked_taken HX.out hT (by omega))
        go_wp2_with fail
        exact ⟨⟨i + 1, 0, by omega, by omega, by omega, by go_num, rfl, HX2, Lib.hid (fun t _ _ => by omega), B2, K2⟩, by simp [intOf]; omega⟩
      | false =>
        have HY2 : Hid (∀ t, i - r ≤ t → t < i + 1 → ztk L t = false) := Lib.hid (fun t h1 h2 => by
          by_cases e : t = i
          · rw [e]; exact hT
          · exact HY.out t h1 (by omega))
        by_cases hE : r + 1 = many
        · have HE : Hid (zfind k (ztk L) many = some (i - r)) := Lib.hid (zblocked_some HX.out hm1 (by omega) (fun t h1 h2 => HY2.out t h1 (by omega)))
          have e1 : ((r : Int) + 1 == (many : Int)) = true := by simp only [beq_iff_eq]; omega
          have e2 : (i : Int) + 1 - (many : Int) = ((i - r : Nat) : Int) := by omega
          clear hE
          go_wp2
          go_ret
          rw [HE.out]
          exact ⟨rfl, B2.out⟩
        · have e1 : ((r : Int) + 1 == (many : Int)) = false := by simp only [beq_eq_false_iff_ne]; omega
          go_wp2_with fail
          exact ⟨⟨i + 1, r + 1, by omega, by omega, by omega, by go_num, by go_num, Lib.hid (by rw [show i + 1 - (r + 1) = i - r by omega]; exact HX.out), Lib.hid (by rw [show i + 1 - (r + 1) = i - r by omega]; exact HY2.out), B2, K2⟩, by simp [intOf]; omega⟩
    · have HE : Hid (zfind k (ztk L) many = none) := Lib.hid (zblocked_none HX.out (by omega))
      obtain rfl : i = k := by omega
      go_wp2
      go_ret
      rw [HE.out]
      exact ⟨rfl, HB.out⟩

theorem rfind_any (k : Nat) (A : Option Addr) (n c F many : Nat) (L : List Nat) (w : World) (hM : ZM w A n c L F) (hr : ZR k L F) (hm1 : 1 ≤ many) (hm2 : (many : Int) ≤ 9223372036854775807) :
    Calls Try.prog 22 #[zbv (k : Int) A n c F, .int .i64 (many : Int)] w fun e w' => e = .returned (.int .i64 (zfi (zfind k (ztk L) many))) ∧ Below w.heap.size w w' := by
  have h6 := hr.len64
  have hl := hM.len
  have h4 := hr.hi
  exact rfind_walk k A n c F many L w h4 (by omega) hm1 hm2 (Lib.hid fun W i hi hb => taken_any k A n c F L i W (hM.later hb) hi)
end Go.Proofs.Ythknelpcdoebiaa
