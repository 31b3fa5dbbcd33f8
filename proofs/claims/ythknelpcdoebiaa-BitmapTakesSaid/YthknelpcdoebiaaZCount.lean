/- The contracts of Count. -/
import Derived.Test.YthknelpcdoebiaaZGetC
import Derived.Test.YthknelpcdoebiaaZCnt
namespace Go.Proofs.Ythknelpcdoebiaa
open Go.RowKit

theorem zcnt_words (L : List Nat) (i : Nat) : zcnt (64 * (i + 1)) (ztk L) = zcnt (64 * i) (ztk L) + zcnt 64 (L.getD i 0).testBit := by
  rw [show 64 * (i + 1) = 64 * i + 64 by omega, zcnt_add]
  congr 1
  exact zcnt_ext fun t ht => ztk_word L i t ht
theorem zno_cnt {n : Nat} (hn : 1 ≤ n) : zcnt 64 (zno n).testBit = 64 * zW n - n := by
  obtain ⟨r, hr⟩ : ∃ r, n = 64 * (zW n - 1) + r ∧ r ≤ 64 := ⟨n - 64 * (zW n - 1), by unfold zW; omega⟩
  have hW : 1 ≤ zW n := by unfold zW; omega
  have e1 : zcnt 64 (zno n).testBit = zcnt (r + (64 - r)) (fun j => decide (n ≤ 64 * (zW n - 1) + j)) := by
    rw [show r + (64 - r) = 64 by omega]
    exact zcnt_ext fun i hi => by unfold zno; rw [zmk_at _ hi]
  rw [e1, zcnt_add, zcnt_none (fun i hi => by simp; omega), zcnt_all (fun i hi => by simp; omega)]
  omega
theorem zcount_is {n : Nat} {L : List Nat} {F : Nat} (h : ZR n L F) : zcnt (64 * L.length) (ztk L) = zcount n L + zcnt 64 (zno n).testBit := by
  have h6 := h.len64
  rw [zno_cnt h.lo, show 64 * L.length = n + (64 * L.length - n) by omega, zcnt_add, zcnt_all (n := 64 * L.length - n) (fun i hi => h.out (n + i) (by omega) (by omega))]
  unfold zcount
  rw [h.len]

set_option maxRecDepth 100000 in
set_option maxHeartbeats 2000000 in
theorem count_bad (N : Int) (A : Option Addr) (n c F : Nat) (L : List Nat) (w : World) (hM : ZM w A n c L F) (hr : zright N L F = false) :
    Calls Try.prog 19 #[zbv N A n c F] w fun x w' => x = .returned (.tuple #[.int .i64 0, .int .i64 1]) ∧ Below w.heap.size w w' := by
  have HB := Lib.hid (zbox_below w N A n c F)
  have HR : Hid (∀ W, Below w.heap.size w W → Calls Try.prog 9 #[zbv N A n c F] W fun e w' => e = .returned (.bool false) ∧ Below W.heap.size W w') := Lib.hid fun W hb => by have := zright_any N A n c F L W (hM.later hb); rwa [hr] at this
  clear hM hr
  go_enter Try.func19, Try.ntmps19
  go_wp2_with fail
  refine (HR.out _ HB.out).mono ?_
  rintro e1 w1 ⟨rfl, hb1⟩
  go_wp2
  go_ret2
  exact ⟨rfl, bt HB.out hb1⟩

set_option maxRecDepth 100000 in
set_option maxHeartbeats 2000000 in
theorem count_walk (N : Int) (A : Option Addr) (n c F z o m : Nat) (L : List Nat) (w : World) (hA : ZRow w A L) (hl : L.length = n) (hn : n ≤ 64)
    (HR : Hid (∀ W, Below w.heap.size w W → Calls Try.prog 9 #[zbv N A n c F] W fun e w' => e = .returned (.bool true) ∧ Below W.heap.size W w'))
    (HN : Hid (∀ w, Calls Try.prog 25 #[.int .i64 N] w fun e w' => e = .returned (zq z) ∧ w = w'))
    (HO : Hid (∀ w, Calls Try.prog 35 #[zq z] w fun e w' => e = .returned (.int .i64 (o : Int)) ∧ w = w'))
    (HC : Hid (∀ k, k < n → ∀ w, Calls Try.prog 35 #[zq (L.getD k 0)] w fun e w' => e = .returned (.int .i64 ((zcnt 64 (L.getD k 0).testBit : Nat) : Int)) ∧ w = w'))
    (HE : Hid (zcnt (64 * n) (ztk L) = m + o)) :
    Calls Try.prog 19 #[zbv N A n c F] w fun x w' => x = .returned (.tuple #[.int .i64 (m : Int), .int .i64 0]) ∧ Below w.heap.size w w' := by
  have HB := Lib.hid (zbox_below w N A n c F)
  have HK := Lib.hid (zbox_blk w N A n c F)
  have HA := Lib.hid hA
  have HL := Lib.hid hl
  clear hA hl
  go_enter Try.func19, Try.ntmps19
  go_wp2_with fail
  refine (HR.out _ HB.out).mono ?_
  rintro e1 w1 ⟨rfl, hb1⟩
  have B1 := Lib.hid (bt HB.out hb1)
  have K1 := Lib.hid (HK.out.below hb1)
  clear hb1
  obtain ⟨⟨q0, q1, q2⟩, _⟩ := zcells K1.out
  have RA := Lib.hid (HA.out.later B1.out)
  go_wp2_with fail
  go_loop [4, 6, 13] (fun v4 _ v13 => ∃ k s : Nat, k ≤ n ∧ v13 = .int .i64 k ∧ v4 = .int .i64 s ∧ Hid (s = zcnt (64 * k) (ztk L))) (fun _ _ v13 => n - (intOf v13).toNat)
  case atStart => exact ⟨0, 0, Nat.zero_le _, rfl, rfl, Lib.hid rfl⟩
  case round =>
    obtain ⟨k, s, hk, rfl, rfl, HS⟩ := hrel
    by_cases hlt : k < n
    · obtain ⟨g, off, rfl, c0⟩ := RA.out k (by rw [HL.out]; exact hlt)
      have HX := Lib.hid (HC.out k hlt)
      have HT := Lib.hid (zcnt_words L k)
      have hs : s ≤ 64 * k := by rw [HS.out]; exact zcnt_le _ _
      have ht := zcnt_le 64 (L.getD k 0).testBit
      generalize zcnt 64 (L.getD k 0).testBit = t at HX HT ht
      generalize L.getD k 0 = x at c0 HX
      have k0 : (0 : Int) ≤ (k : Int) := by omega
      have k1 : (k : Int) < (n : Int) := by omega
      go_wp2_with fail
      refine (HX.out _).mono ?_
      rintro e2 w2 ⟨rfl, rfl⟩
      go_wp2_with fail
      exact ⟨⟨k + 1, s + t, by omega, by go_num, by go_num, Lib.hid (by rw [HS.out, HT.out])⟩, by simp [intOf]; omega⟩
    · obtain rfl : k = n := by omega
      have hm : s = m + o := by rw [HS.out, HE.out]
      have hs : s ≤ 64 * k := by rw [HS.out]; exact zcnt_le _ _
      go_wp2_with fail
      refine (HN.out _).mono ?_
      rintro e2 w2 ⟨rfl, rfl⟩
      go_wp2_with fail
      refine (HO.out _).mono ?_
      rintro e2 w2 ⟨rfl, rfl⟩
      have hd : (s : Int) - (o : Int) = (m : Int) := by omega
      have hm4 : m ≤ 4096 := by omega
      clear hm hs
      go_wp2
      go_ret2
      exact ⟨rfl, B1.out⟩

theorem count_yes (k : Nat) (A : Option Addr) (n c F : Nat) (L : List Nat) (w : World) (hM : ZM w A n c L F) (hr : ZR k L F) :
    Calls Try.prog 19 #[zbv (k : Int) A n c F] w fun x w' => x = .returned (.tuple #[.int .i64 ((zcount k L : Nat) : Int), .int .i64 0]) ∧ Below w.heap.size w w' := by
  have h6 := hr.len64
  have hl := hM.len
  refine count_walk k A n c F (zno k) (zcnt 64 (zno k).testBit) (zcount k L) L w hM.row hl (by omega)
    (Lib.hid fun W hb => by have := zright_any k A n c F L W (hM.later hb); rwa [zright_mk hr] at this)
    (Lib.hid fun w => noPlaces_any k hr.lo hr.hi w) (Lib.hid fun w => ones_any _ (zno_lt k) w)
    (Lib.hid fun j _ w => ones_any _ (getD_lt hM.lt j) w) (Lib.hid ?_)
  rw [← hl]
  exact zcount_is hr
end Go.Proofs.Ythknelpcdoebiaa
