/- The contracts of the reference's Turned and Xor. -/
import Derived.Test.YtodolffolbkaaaaARBase
import Derived.BigQuiet
namespace Go.Proofs.Ytodolffolbkaaaa
open Go.RowKit

theorem take_ub (l : List UInt8) (k : Nat) (h : k < l.length) : l.take (k + 1) = l.take k ++ [ub l k] := by
  rw [List.take_succ_eq_append_getElem h, ub_at h]
theorem turnG_at' (G : List UInt8) (c r : Nat) (hc : c < 4) (hr : r < 4) : ub (turnG G) (c * 4 + r) = ub G (4 * ((c + r) % 4) + r) := by
  unfold turnG
  rw [ub_tab _ (by omega), show (c * 4 + r) / 4 = c by omega, show (c * 4 + r) % 4 = r by omega]

set_option maxRecDepth 100000 in
set_option maxHeartbeats 2000000 in
theorem rTurned_any (l : List UInt8) (w : World) (hl : l.length = 16) :
    Calls Try.prog 18 #[.string ⟨l.toArray⟩] w fun e w' => e = .returned (.string ⟨(turnG l).toArray⟩) ∧ Below w.heap.size w w' := by
  obtain ⟨i0, hi, hz0, hz1, hz2⟩ := info_parts info5
  have HIX := Lib.hid (index_of l)
  have HU := Lib.hid (turnG_at' l)
  have HN : Hid ((turnG l).length = 16) := Lib.hid (tab_len _ _)
  have hsz := size_of l
  rw [hl] at hsz HIX
  obtain ⟨N, hN⟩ : ∃ N, turnG l = N := ⟨_, rfl⟩
  rw [hN] at HU HN ⊢
  have HTK := Lib.hid (take_ub N)
  have HO0 : Hid ((w.alloc (.cells #[] 5)).ownsRow w.heap.size 5 1 (.slice (some ⟨w.heap.size, 0, none⟩) 0 0) 0 ((N.take 0).map uv)) := Lib.hid (own_nil (Blk.new w _ _) (Nat.le_refl _))
  have hb0 := ba (Below.refl w.heap.size w) (.cells #[] 5)
  clear hl hN
  go_enter Try.func18, Try.ntmps18
  go_wp2_with fail
  go_loopw [3, 4] (fun ov iv wr => ∃ c g d : Nat, c ≤ 4 ∧ iv = .int .i64 c ∧ ov = .slice (some ⟨g, 0, none⟩) (c * 4) d ∧ Hid (wr.ownsRow w.heap.size 5 1 (.slice (some ⟨g, 0, none⟩) (c * 4) d) (c * 4) ((N.take (c * 4)).map uv)) ∧ Below w.heap.size w wr) (fun _ iv _ => 4 - (intOf iv).toNat)
  case atStart => exact ⟨0, _, _, Nat.zero_le _, rfl, rfl, HO0, hb0⟩
  case round =>
    clear HO0 hb0
    obtain ⟨c, g, d, hc, rfl, rfl, HO, hb⟩ := hrel
    by_cases hlt : c < 4
    · have hci : (c : Int) < 4 := by omega
      go_wp2_with fail
      go_loopw [3, 5] (fun ov iv wx => ∃ r g d : Nat, r ≤ 4 ∧ iv = .int .i64 r ∧ ov = .slice (some ⟨g, 0, none⟩) (c * 4 + r) d ∧ Hid (wx.ownsRow w.heap.size 5 1 (.slice (some ⟨g, 0, none⟩) (c * 4 + r) d) (c * 4 + r) ((N.take (c * 4 + r)).map uv)) ∧ Below w.heap.size w wx) (fun _ iv _ => 4 - (intOf iv).toNat)
      case atStart => exact ⟨0, _, _, Nat.zero_le _, rfl, rfl, HO, hb⟩
      case round =>
        clear HO hb
        obtain ⟨r, g, d, hr, rfl, rfl, HO, hb⟩ := hrel
        by_cases hrl : r < 4
        · have hri : (r : Int) < 4 := by omega
          have hu := HU.out c r hlt hrl
          have HT := Lib.hid (HTK.out (c * 4 + r) (by rw [HN.out]; omega))
          rw [hu] at HT
          obtain ⟨q, hq⟩ : ∃ q, (c + r) % 4 = q := ⟨_, rfl⟩
          obtain ⟨s, hs⟩ : ∃ s, 4 * q = s := ⟨_, rfl⟩
          obtain ⟨m, hm⟩ : ∃ m, s + r = m := ⟨_, rfl⟩
          rw [hq, hs, hm] at HT
          have e1 : ((c : Int) + (r : Int)).tmod 4 = (q : Int) := by rw [Int.tmod_eq_emod_of_nonneg (by omega)]; omega
          have e2 : 4 * (q : Int) = (s : Int) := by omega
          have e3 : (s : Int) + (r : Int) = (m : Int) := by omega
          have hq4 : (q : Int) < 4 := by omega
          have hs4 : (s : Int) ≤ 12 := by omega
          have hix := HIX.out m m rfl (by omega)
          generalize ub l m = x at hix HT
          have hz := hb.size
          have hnews := news_new wr [uv x] 5
          obtain ⟨p, hp⟩ : ∃ p, c * 4 + r = p := ⟨_, rfl⟩
          have hp1 : c * 4 + (r + 1) = p + 1 := by omega
          rw [hp] at HO HT ⊢
          have HP1 := Lib.hid hp1
          have hpl : p ≤ 15 := by omega
          clear hu hq hs hm hp hp1
          go_upto_region 7 with (at_builtin; refine wpList_append_own _ rfl _ _ 40 rfl w.heap.size 5 i0 (.int .u8 0) 1 1 Try.underlying40 hi hz0 hz1 hz2 rfl (by decide) _ _ _ rfl (own_alloc HO.out _) ⟨wr.heap.size, 0, none⟩ 1 1 [uv x] rfl rfl hnews (by simp [Value.oneCell']) (by unfold maxLen; omega) (by omega) (by simp; omega) ?_; intro v' w6 hown' hgrow _; obtain ⟨g1, c1, rfl⟩ := ownsRow_succ hown'; have HO6 := Lib.hid hown'; have hb6 : Below w.heap.size w w6 := (hb.alloc hb.size _).grown hgrow (by simp; omega) (fun r e => by cases e; exact (HO.out.lt _ rfl).1); clear hown' hnews hgrow)
          go_wp2_with fail
          exact ⟨⟨r + 1, g1, c1, by omega, by go_num, by rw [HP1.out], Lib.hid (by rw [HP1.out, HT.out, List.map_append]; exact HO6.out), hb6⟩, by simp [intOf]; omega⟩
        · obtain rfl : r = 4 := by omega
          have HSE : Hid (c * 4 + 4 = (c + 1) * 4) := Lib.hid (by omega)
          rw [HSE.out] at HO ⊢
          go_wp2_with fail
          exact ⟨⟨c + 1, g, d, by omega, by go_num, rfl, HO, hb⟩, by simp [intOf]; omega⟩
    · obtain rfl : c = 4 := by omega
      rw [List.take_of_length_le (by rw [HN.out]; exact Nat.le_refl 16)] at HO
      have HTX := Lib.hid (text_any w.heap.size g 16 d N wr HO.out HN.out)
      go_wp2_with fail
      refine HTX.out.mono ?_
      rintro e w' ⟨rfl, rfl⟩
      go_wp2_with fail
      go_ret
      exact ⟨rfl, hb⟩
end Go.Proofs.Ytodolffolbkaaaa
