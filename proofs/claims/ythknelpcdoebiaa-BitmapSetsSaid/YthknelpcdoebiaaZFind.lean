/- The contracts of firstFree and Find. -/
import Derived.Test.YthknelpcdoebiaaZGetC
import Derived.Deep.LoopGhost
import Derived.WalkMore
namespace Go.Proofs.Ythknelpcdoebiaa
open Go.RowKit

/-- What is found. -/
def zfv : Option Nat → Value
  | some s => .tuple #[.int .i64 (s : Int), .int .i64 0]
  | none => .tuple #[.int .i64 0, .int .i64 6]

set_option maxRecDepth 100000 in
set_option maxHeartbeats 4000000 in
theorem first_walk (k : Nat) (A : Option Addr) (n c F many : Nat) (L : List Nat) (w : World) (hk : k ≤ 64 * n) (hn : n ≤ 64) (hm1 : 1 ≤ many) (hm2 : (many : Int) ≤ 9223372036854775807)
    (HFL : Hid (∀ j, j < n → F.testBit j = (L.getD j 0 == Zfull)))
    (HU : Hid (∀ W (j : Nat), j < 64 → Below w.heap.size w W → Calls Try.prog 37 #[zbv (k : Int) A n c F, .int .i64 (j : Int)] W fun e w' => e = .returned (.bool (F.testBit j)) ∧ Below W.heap.size W w'))
    (HT : Hid (∀ W (i : Nat), i < 64 * n → Below w.heap.size w W → Calls Try.prog 33 #[zbv (k : Int) A n c F, .int .i64 (i : Int)] W fun e w' => e = .returned (.bool (ztk L i)) ∧ Below W.heap.size W w'))
    (HLA : Hid (∀ (j : Nat) W, j ≤ 4096 → Calls Try.prog 38 #[.int .i64 (j : Int)] W fun e w' => e = .returned (.int .i64 ((64 * j + 63 : Nat) : Int)) ∧ W = w')) :
    Calls Try.prog 36 #[zbv (k : Int) A n c F, .int .i64 (many : Int)] w fun x w' => x = .returned (zfv (zfind k (ztk L) many)) ∧ Below w.heap.size w w' := by
  have HB := Lib.hid (zbox_below w k A n c F)
  have HK := Lib.hid (zbox_blk w k A n c F)
  go_enter Try.func36, Try.ntmps36
  go_wp2
  go_step3
  go_wp2
  go_step3
  go_wp2
  go_loopg [6, 7] (64 * n + 1) (fun g s6 _ wx => ∃ f : Nat, f + g = 64 * n + 1 ∧ s6 = .int .i64 f ∧ Hid (zblocked k (ztk L) many f) ∧ Hid (Below w.heap.size w wx) ∧ Hid (Blk wx w.heap.size 25 (zcs k A n c F)))
  case atStart => exact ⟨0, by omega, rfl, Lib.hid (fun t ht => absurd ht (Nat.not_lt_zero t)), HB, HK⟩
  case round =>
    clear HB HK
    obtain ⟨f, hfg, rfl, HX, HB, HK⟩ := hrel
    obtain ⟨⟨q0, q1, q2⟩, _⟩ := zcells HK.out
    by_cases hm : (many : Int) ≤ (k : Int) - (f : Int)
    · go_wp2_with fail
      clear q0 q1 q2
      go_loopg [6, 7] many (fun g s6 s7 wy => ∃ i : Nat, i + g = f + many ∧ s6 = .int .i64 f ∧ s7 = .int .i64 i ∧ f ≤ i ∧ Hid (∀ t, f ≤ t → t < i → ztk L t = false) ∧ Hid (Below w.heap.size w wy) ∧ Hid (Blk wy w.heap.size 25 (zcs k A n c F)))
      case atStart => exact ⟨f, by omega, rfl, rfl, Nat.le_refl _, Lib.hid (fun t h1 h2 => by omega), HB, HK⟩
      case round =>
        clear HB HK
        obtain ⟨i, hig, rfl, rfl, hfi, HY, HB, HK⟩ := hrel
        obtain ⟨⟨q0, q1, q2⟩, _⟩ := zcells HK.out
        cases gk with
        | zero =>
          have hiz : ¬ ((i : Int) < (f : Int) + (many : Int)) := by omega
          have HE : Hid (zfind k (ztk L) many = some f) := Lib.hid (zblocked_some HX.out hm1 (by omega) fun t h1 h2 => HY.out t h1 (by omega))
          go_wp2
          try rw [Exit.noGoto_ret]
          go_ret2
          rw [HE.out]
          exact ⟨rfl, HB.out⟩
        | succ g2 =>
          have hiz : (i : Int) < (f : Int) + (many : Int) := by omega
          have hin : i < 64 * n := by omega
          have hd : ((i : Int) / 64) = ((i / 64 : Nat) : Int) := by omega
          have hw : IntKind.i64.wrap ((i / 64 : Nat) : Int) = ((i / 64 : Nat) : Int) := by rw [IntKind.wrap_i64]; omega
          have hq : i / 64 < n := by omega
          have HU1 := Lib.hid (HU.out)
          have HZ := Lib.hid (HFL.out (i / 64) hq)
          have HW1 : Hid (L.getD (i / 64) 0 = Zfull → zblocked k (ztk L) many (64 * (i / 64) + 63 + 1)) := Lib.hid (fun h => zblocked_word HX.out hm1 h (by omega))
          have HW2 : Hid (ztk L i = true → zblocked k (ztk L) many (i + 1)) := Lib.hid (fun h => zblocked_taken HX.out h (by omega))
          have hqi : 64 * (i / 64) ≤ i ∧ i < 64 * (i / 64) + 64 := by omega
          generalize i / 64 = q at hd hw hq HZ HW1 hqi
          go_wp2_with fail
          refine (HU.out _ q (by omega) HB.out).mono ?_
          rintro e1 w1 ⟨rfl, hb1⟩
          have B1 := Lib.hid (bt HB.out hb1)
          have K1 := Lib.hid (HK.out.below hb1)
          clear hb1 q0 q1 q2 HB HK
          cases hF : F.testBit q with
          | true =>
            have HF : Hid (L.getD q 0 = Zfull) := Lib.hid (by have := HZ.out; rw [hF] at this; simpa using this.symm)
            go_wp2_with fail
            refine (HLA.out q _ (by omega)).mono ?_
            rintro e2 w2 ⟨rfl, rfl⟩
            go_wp2_with fail
            go_roundg (64 * n + 1 - (64 * q + 63 + 1))
            case measure => omega
            case rel => exact ⟨64 * q + 63 + 1, by omega, by go_num, Lib.hid (HW1.out HF.out), B1, K1⟩
          | false =>
            obtain ⟨⟨q0, q1, q2⟩, _⟩ := zcells K1.out
            go_wp2_with fail
            refine (HT.out _ i hin B1.out).mono ?_
            rintro e2 w2 ⟨rfl, hb2⟩
            have B2 := Lib.hid (bt B1.out hb2)
            have K2 := Lib.hid (K1.out.below hb2)
            clear hb2 q0 q1 q2 B1 K1
            cases hT : ztk L i with
            | true =>
              go_wp2_with fail
              go_roundg (64 * n + 1 - (i + 1))
              case measure => omega
              case rel => exact ⟨i + 1, by omega, by go_num, Lib.hid (HW2.out hT), B2, K2⟩
            | false =>
              go_wp2_with fail
              go_roundg g2
              case measure => omega
              case rel => exact ⟨i + 1, by omega, rfl, by go_num, by omega, Lib.hid (fun t h1 h2 => by
                by_cases e : t = i
                · rw [e]; exact hT
                · exact HY.out t h1 (by omega)), B2, K2⟩
    · have HE : Hid (zfind k (ztk L) many = none) := Lib.hid (zblocked_none HX.out (by omega))
      go_wp2
      try rw [Exit.noGoto_ret]
      go_ret2
      rw [HE.out]
      exact ⟨rfl, HB.out⟩
end Go.Proofs.Ythknelpcdoebiaa
