/- The contract of the reference's word. -/
import Derived.Test.YthknelpcdoebiaaZGetC
namespace Go.Proofs.Ythknelpcdoebiaa
open Go.RowKit

/-- A word of a map, one place told anew. -/
def zbitAt (L : List Nat) (v i : Nat) (b : Bool) (t : Nat) : Bool := if 64 * v + t = i then b else ztk L (64 * v + t)
def zwordAt (L : List Nat) (v i : Nat) (b : Bool) : Nat := zmk 64 (zbitAt L v i b)
theorem zwordAt_lt (L : List Nat) (v i : Nat) (b : Bool) : zwordAt L v i b < Z64 := zmk64_lt _
theorem zset_at {L : List Nat} (hL : ∀ x ∈ L, x < Z64) {i : Nat} (b : Bool) (hi : i < 64 * L.length) (v : Nat) : (zset L i b).getD v 0 = zwordAt L v i b := by
  refine zword_ext (getD_lt (zset_lt hL i b) v) (zwordAt_lt L v i b) fun t ht => ?_
  rw [← ztk_word _ _ _ ht, ztk_set b hi, zwordAt, zmk_at _ ht]
  rfl

set_option maxRecDepth 100000 in
set_option maxHeartbeats 4000000 in
theorem rword_walk (k : Int) (A : Option Addr) (n c F v i : Nat) (b : Bool) (L : List Nat) (w : World) (hn : n ≤ 64) (hv : v < n)
    (HT : Hid (∀ W (i : Nat), i < 64 * n → Below w.heap.size w W → Calls Try.prog 17 #[zbv k A n c F, .int .i64 (i : Int)] W fun e w' => e = .returned (.bool (ztk L i)) ∧ Below W.heap.size W w')) :
    Calls Try.prog 34 #[zbv k A n c F, .int .i64 (v : Int), .int .i64 (i : Int), .bool b] w fun e w' => e = .returned (zq (zwordAt L v i b)) ∧ Below w.heap.size w w' := by
  have HB := Lib.hid (zbox_below w k A n c F)
  have HK := Lib.hid (zbox_blk w k A n c F)
  obtain ⟨G, hG⟩ : ∃ G, zbitAt L v i b = G := ⟨_, rfl⟩
  have HG := Lib.hid hG
  unfold zwordAt
  rw [hG]
  clear hG
  go_enter Try.func34, Try.ntmps34
  go_wp2_with fail
  go_loopw [9, 10, 11] (fun ov qv _ wr => ∃ (e o : Nat) (q : Int), e ≤ 64 ∧ q + 1 = (e : Int) ∧ qv = .int .i64 q ∧ ov = zq o ∧ o < 2 ^ (64 - e) ∧ Hid (o = zmk (64 - e) (fun t => G (e + t))) ∧ Hid (Below w.heap.size w wr) ∧ Hid (Blk wr w.heap.size 25 (zcs k A n c F))) (fun _ qv _ _ => (intOf qv + 1).toNat)
  case atStart => exact ⟨64, 0, 63, Nat.le_refl _, by omega, rfl, rfl, by decide, Lib.hid rfl, HB, HK⟩
  case round =>
    clear HB HK
    obtain ⟨e, o, q, he, hq, rfl, rfl, ho, HO, HB, HK⟩ := hrel
    obtain ⟨⟨q0, q1, q2⟩, _⟩ := zcells HK.out
    cases e with
    | zero =>
      obtain rfl : q = -1 := by omega
      have HE : Hid (o = zmk 64 G) := Lib.hid (by rw [HO.out]; exact zmk_ext fun t _ => by rw [Nat.zero_add])
      go_wp2
      go_ret
      rw [HE.out]
      exact ⟨rfl, HB.out⟩
    | succ e =>
      obtain rfl : q = (e : Int) := by omega
      have h63 : o < 9223372036854775808 := by
        have : 2 ^ (64 - (e + 1)) ≤ 2 ^ 63 := Nat.pow_le_pow_right (by omega) (by omega)
        have h2 : 2 ^ 63 = 9223372036854775808 := by decide
        omega
      have HN : Hid (zmk (64 - e) (fun t => G (e + t)) = (G e).toNat + 2 * o) := Lib.hid (by
        rw [HO.out, show 64 - e = (64 - (e + 1)) + 1 by omega, zmk_drop])
      have HP : Hid ((G e).toNat + 2 * o < 2 ^ (64 - e)) := Lib.hid (by rw [← HN.out]; exact zmk_lt _ _)
      have HGe : Hid (G e = if 64 * v + e = i then b else ztk L (64 * v + e)) := Lib.hid (by rw [← HG.out]; rfl)
      have hpn : 64 * v + e < 64 * n := by omega
      have he2 : e ≤ 64 := by omega
      have hp4 : 64 * v + e < 4096 := by omega
      have hp : (64 : Int) * (v : Int) + (e : Int) = ((64 * v + e : Nat) : Int) := by omega
      have hge : (0 : Int) ≤ (e : Int) := by omega
      clear ho he HO hq
      generalize 64 * v + e = p at HGe hpn hp hp4
      go_wp2_with fail
      refine (HT.out _ p hpn HB.out).mono ?_
      rintro e2 w2 ⟨rfl, hb2⟩
      have B2 := Lib.hid (bt HB.out hb2)
      have K2 := Lib.hid (HK.out.below hb2)
      clear hb2 q0 q1 q2 HB HK
      by_cases hpi : p = i
      · have e1 : ((p : Int) == (i : Int)) = true := by simp only [beq_iff_eq]; omega
        have HGb : Hid (G e = b) := Lib.hid (by rw [HGe.out, if_pos hpi])
        clear hpi HGe
        cases b
        · go_wp2_with fail
          exact ⟨⟨e, 2 * o, (e : Int) - 1, by omega, by omega, rfl, by go_num, by have := HP.out; rw [HGb.out] at this; simpa using this, Lib.hid (by simp only [HN.out, HGb.out, Bool.toNat_false, Nat.zero_add]), B2, K2⟩, by simp [intOf]⟩
        · go_wp2_with fail
          exact ⟨⟨e, 1 + 2 * o, (e : Int) - 1, by omega, by omega, rfl, by go_num, by have := HP.out; rw [HGb.out] at this; simpa using this, Lib.hid (by simp only [HN.out, HGb.out, Bool.toNat_true]), B2, K2⟩, by simp [intOf]⟩
      · have e1 : ((p : Int) == (i : Int)) = false := by simp only [beq_eq_false_iff_ne]; omega
        have HGb : Hid (G e = ztk L p) := Lib.hid (by rw [HGe.out, if_neg hpi])
        clear hpi HGe
        generalize ztk L p = t at HGb ⊢
        cases t
        · go_wp2_with fail
          exact ⟨⟨e, 2 * o, (e : Int) - 1, by omega, by omega, rfl, by go_num, by have := HP.out; rw [HGb.out] at this; simpa using this, Lib.hid (by simp only [HN.out, HGb.out, Bool.toNat_false, Nat.zero_add]), B2, K2⟩, by simp [intOf]⟩
        · go_wp2_with fail
          exact ⟨⟨e, 1 + 2 * o, (e : Int) - 1, by omega, by omega, rfl, by go_num, by have := HP.out; rw [HGb.out] at this; simpa using this, Lib.hid (by simp only [HN.out, HGb.out, Bool.toNat_true]), B2, K2⟩, by simp [intOf]⟩
end Go.Proofs.Ythknelpcdoebiaa
