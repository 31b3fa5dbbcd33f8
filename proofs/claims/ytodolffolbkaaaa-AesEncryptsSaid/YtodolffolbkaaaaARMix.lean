/- The contract of the reference's Mixed. -/
import Derived.Test.YtodolffolbkaaaaARXor
namespace Go.Proofs.Ytodolffolbkaaaa
open Go.RowKit

def mixS (l : List UInt8) (c r : Nat) : Nat → UInt8
  | 0 => 0
  | k + 1 => mixS l c r k ^^^ mul8 (ub l (4 * c + k)) (facB r k)
theorem mul8_one (a : UInt8) : mul8 a 1 = a := by
  apply UInt8.toNat_inj.1
  rw [mul8_nat]
  exact cm_one a.toNat_lt
theorem mixS_four (l : List UInt8) (c r : Nat) (hc : c < 4) (hr : r < 4) : mixS l c r 4 = ub (mixG l) (c * 4 + r) := by
  unfold mixG
  rw [ub_tab _ (by omega), show (c * 4 + r) / 4 = c by omega, show (c * 4 + r) % 4 = r by omega]
  unfold mixW
  rw [ub_tab _ hr, ub_colG _ _ (by omega), ub_colG _ _ (by omega), ub_colG _ _ (by omega), ub_colG _ _ (by omega)]
  obtain rfl | rfl | rfl | rfl : r = 0 ∨ r = 1 ∨ r = 2 ∨ r = 3 := by omega
  all_goals
    simp only [mixS, mixB, facB]
    simp [mul8_one]
    try ac_rfl

set_option maxRecDepth 100000 in
set_option maxHeartbeats 4000000 in
theorem rMixed_any (l : List UInt8) (w : World) (hl : l.length = 16) :
    Calls Try.prog 19 #[.string ⟨l.toArray⟩] w fun e w' => e = .returned (.string ⟨(mixG l).toArray⟩) ∧ Below w.heap.size w w' := by
  obtain ⟨i0, hi, hz0, hz1, hz2⟩ := info_parts info5
  have HIX := Lib.hid (index_of l)
  have HU := Lib.hid (mixS_four l)
  have HN : Hid ((mixG l).length = 16) := Lib.hid (tab_len _ _)
  have hsz := size_of l
  rw [hl] at hsz HIX
  obtain ⟨N, hN⟩ : ∃ N, mixG l = N := ⟨_, rfl⟩
  rw [hN] at HU HN ⊢
  have HTK := Lib.hid (take_ub N)
  have HO0 : Hid ((w.alloc (.cells #[] 5)).ownsRow w.heap.size 5 1 (.slice (some ⟨w.heap.size, 0, none⟩) 0 0) 0 ((N.take 0).map uv)) := Lib.hid (own_nil (Blk.new w _ _) (Nat.le_refl _))
  have hb0 := ba (Below.refl w.heap.size w) (.cells #[] 5)
  clear hl hN
  go_enter Try.func19, Try.ntmps19
  go_wp2_with fail
  go_loopw [3, 4] (fun ov iv wr => ∃ c g d : Nat, c ≤ 4 ∧ iv = .int .i64 c ∧ ov = .slice (some ⟨g, 0, none⟩) (c * 4) d ∧ Hid (wr.ownsRow w.heap.size 5 1 (.slice (some ⟨g, 0, none⟩) (c * 4) d) (c * 4) ((N.take (c * 4)).map uv)) ∧ Below w.heap.size w wr) (fun _ iv _ => 4 - (intOf iv).toNat)
  case atStart => exact ⟨0, _, _, Nat.zero_le _, rfl, rfl, HO0, hb0⟩
  case round =>
    clear HO0 hb0
    obtain ⟨c, g, d, hc, rfl, rfl, HO, hb⟩ := hrel
    by_cases hlt : c < 4
    · have hci : (c : Int) < 4 := by omega
      go_wp2_with fail
      go_loopw [3, 5] (fun ov iv wx => ∃ r g d : Nat, r ≤ 4 ∧ iv = .int .i64 r ∧ ov = .slice (some ⟨g, 0, none⟩) (c * 4 + r) d ∧ Hid (wx.ownsRow w.heap.size 5 1 (.slice (some ⟨g, 0, none⟩) (c * 4 + r) d) (c * 4 + r) ((N.take (c * 4 + r)).map uv)) ∧ Below w.heap.size w wx) (fun _ iv _ => 4 - (intOf iv).toNat)
      case atStart => exact ⟨0, _, _, Nat.zero_le _, rfl, rfl, HO, hb⟩
      case round =>
        clear HO hb
        obtain ⟨r, g, d, hr, rfl, rfl, HO, hb⟩ := hrel
        by_cases hrl : r < 4
        · have hri : (r : Int) < 4 := by omega
          have HT := Lib.hid (HTK.out (c * 4 + r) (by rw [HN.out]; omega))
          rw [← HU.out c r hlt hrl] at HT
          obtain ⟨p, hp⟩ : ∃ p, c * 4 + r = p := ⟨_, rfl⟩
          have hp1 : c * 4 + (r + 1) = p + 1 := by omega
          rw [hp] at HO HT ⊢
          have HP1 := Lib.hid hp1
          have hpl : p ≤ 15 := by omega
          clear hp hp1
          have HM0 : Hid (mixS l c r 0 = 0) := Lib.hid rfl
          go_wp2_with fail
          go_loopw [6, 7] (fun nv kv wy => ∃ (k : Nat) (x : UInt8), k ≤ 4 ∧ kv = .int .i64 k ∧ nv = uv x ∧ Hid (mixS l c r k = x) ∧ Hid (wy.ownsRow w.heap.size 5 1 (.slice (some ⟨g, 0, none⟩) p d) p ((N.take p).map uv)) ∧ Below w.heap.size w wy) (fun _ kv _ => 4 - (intOf kv).toNat)
          case atStart => exact ⟨0, 0, by omega, rfl, rfl, HM0, HO, hb⟩
          case round =>
            clear HM0 HO hb
            obtain ⟨k, x, hk, rfl, rfl, HX, HO, hb⟩ := hrel
            by_cases hkl : k < 4
            · have hki : (k : Int) < 4 := by omega
              obtain ⟨s, hs⟩ : ∃ s, 4 * c = s := ⟨_, rfl⟩
              obtain ⟨m, hm⟩ : ∃ m, s + k = m := ⟨_, rfl⟩
              have e2 : 4 * (c : Int) = (s : Int) := by omega
              have e3 : (s : Int) + (k : Int) = (m : Int) := by omega
              have hs4 : (s : Int) ≤ 12 := by omega
              have hix := HIX.out m m rfl (by omega)
              have HX2 : Hid (mixS l c r (k + 1) = x ^^^ mul8 (ub l m) (facB r k)) := Lib.hid (by rw [mixS, HX.out, hs, hm])
              have RF : Hid (∀ q, Calls Try.prog 35 #[.int .i64 (r : Int), .int .i64 (k : Int)] (wr.drewN q) fun e' w' => e' = .returned (uv (facB r k)) ∧ ∃ q', w' = wr.drewN q') := Lib.hid fun q => (factor_any r k _ hri hki).mono fun e w' ⟨h1, h2⟩ => ⟨h1, q, h2.symm⟩
              generalize facB r k = f at HX2 RF
              generalize ub l m = y at hix HX2
              have RM : Hid (∀ q, Calls Try.prog 34 #[.int .u8 (y.toNat : Int), .int .u8 (f.toNat : Int)] (wr.drewN q) fun e' w' => e' = .returned (uv (mul8 y f)) ∧ ∃ q', w' = wr.drewN q') := Lib.hid fun q => (rmul8_any y f _).mono fun e w' ⟨h1, h2⟩ => ⟨h1, q, h2.symm⟩
              generalize mul8 y f = v at HX2 RM
              have hxr := xor_byte x v
              obtain ⟨z, hz⟩ : ∃ z, x ^^^ v = z := ⟨_, rfl⟩
              rw [hz] at HX2 hxr
              clear hs hm hz
              go_wp2_with fail
              go_quiet ((first | (go_at_call 35; with_reducible exact RF.out _) | (go_at_call 34; with_reducible exact RM.out _)))
              go_wp2_with fail
              exact ⟨⟨k + 1, z, by omega, by go_num, rfl, HX2, Lib.hid HO.out, bdn' hb _⟩, by simp [intOf]; omega⟩
            · obtain rfl : k = 4 := by omega
              rw [HX.out] at HT
              have hz := hb.size
              have hnews := news_new wr [uv x] 5
              go_upto_region 7 with (at_builtin; refine wpList_append_own _ rfl _ _ 40 rfl w.heap.size 5 i0 (.int .u8 0) 1 1 Try.underlying40 hi hz0 hz1 hz2 rfl (by decide) _ _ _ rfl (own_alloc HO.out _) ⟨wr.heap.size, 0, none⟩ 1 1 [uv x] rfl rfl hnews (by simp [Value.oneCell']) (by unfold maxLen; omega) (by omega) (by simp; omega) ?_; intro v' w6 hown' hgrow _; obtain ⟨g1, c1, rfl⟩ := ownsRow_succ hown'; have HO6 := Lib.hid hown'; have hb6 : Below w.heap.size w w6 := (hb.alloc hb.size _).grown hgrow (by simp; omega) (fun r e => by cases e; exact (HO.out.lt _ rfl).1); clear hown' hnews hgrow)
              go_wp2_with fail
              exact ⟨⟨r + 1, g1, c1, by omega, by go_num, by rw [HP1.out], Lib.hid (by rw [HP1.out, HT.out, List.map_append]; exact HO6.out), hb6⟩, by simp [intOf]; omega⟩
        · obtain rfl : r = 4 := by omega
          have HSE : Hid (c * 4 + 4 = (c + 1) * 4) := Lib.hid (by omega)
          rw [HSE.out] at HO ⊢
          go_wp2_with fail
          exact ⟨⟨c + 1, g, d, by omega, by go_num, rfl, HO, hb⟩, by simp [intOf]; omega⟩
    · obtain rfl : c = 4 := by omega
      rw [List.take_of_length_le (by rw [HN.out]; exact Nat.le_refl 16)] at HO
      have HTX := Lib.hid (text_any w.heap.size g 16 d N wr HO.out HN.out)
      go_wp2_with fail
      refine HTX.out.mono ?_
      rintro e w' ⟨rfl, rfl⟩
      go_wp2_with fail
      go_ret
      exact ⟨rfl, hb⟩
end Go.Proofs.Ytodolffolbkaaaa
