/- Texts of this seat, one behind the other: ARMix, ARWordM, ARWords, AKeyL. -/
import Derived.Test.YtcecjoodlmpgnaaGreatQ18
/- The contract of the reference's Mixed. -/
namespace Go.Proofs.YtcecjoodlmpgnaaGreat
open Go.RowKit

def mixS (l : List UInt8) (c r : Nat) : Nat → UInt8
  | 0 => 0
  | k + 1 => mixS l c r k ^^^ mul8 (ub l (4 * c + k)) (facB r k)
theorem mul8_one (a : UInt8) : mul8 a 1 = a := by
  apply UInt8.toNat_inj.1
  rw [mul8_nat]
  exact cm_one a.toNat_lt
theorem mixS_four (l : List UInt8) (c r : Nat) (hc : c < 4) (hr : r < 4) : mixS l c r 4 = ub (mixG l) (c * 4 + r) := by
  unfold mixG
  rw [ub_tab _ (by omega), show (c * 4 + r) / 4 = c by omega, show (c * 4 + r) % 4 = r by omega]
  unfold mixW
  rw [ub_tab _ hr, ub_colG _ _ (by omega), ub_colG _ _ (by omega), ub_colG _ _ (by omega), ub_colG _ _ (by omega)]
  obtain rfl | rfl | rfl | rfl : r = 0 ∨ r = 1 ∨ r = 2 ∨ r = 3 := by omega
  all_goals
    simp only [mixS, mixB, facB]
    simp [mul8_one]
    try ac_rfl

set_option maxRecDepth 100000 in
set_option maxHeartbeats 4000000 in
theorem rMixed_any (l : List UInt8) (w : World) (hl : l.length = 16) :
    Calls Tryz.prog 78 #[.string ⟨l.toArray⟩] w fun e w' => e = .returned (.string ⟨(mixG l).toArray⟩) ∧ Below w.heap.size w w' := by
  obtain ⟨i0, hi, hz0, hz1, hz2⟩ := info_parts info5
  have HIX := Lib.hid (index_of l)
  have HU := Lib.hid (mixS_four l)
  have HN : Hid ((mixG l).length = 16) := Lib.hid (tab_len _ _)
  have hsz := size_of l
  rw [hl] at hsz HIX
  obtain ⟨N, hN⟩ : ∃ N, mixG l = N := ⟨_, rfl⟩
  rw [hN] at HU HN ⊢
  have HTK := Lib.hid (take_ub N)
  have HO0 : Hid ((w.alloc (.cells #[] 5)).ownsRow w.heap.size 5 1 (.slice (some ⟨w.heap.size, 0, none⟩) 0 0) 0 ((N.take 0).map uv)) := Lib.hid (own_nil (Blk.new w _ _) (Nat.le_refl _))
  have hb0 := ba (Below.refl w.heap.size w) (.cells #[] 5)
  clear hl hN
  go_enter Tryz.func78, Tryz.ntmps78
  go_wp2_with fail
  go_loopw [3, 4] (fun ov iv wr => ∃ c g d : Nat, c ≤ 4 ∧ iv = .int .i64 c ∧ ov = .slice (some ⟨g, 0, none⟩) (c * 4) d ∧ Hid (wr.ownsRow w.heap.size 5 1 (.slice (some ⟨g, 0, none⟩) (c * 4) d) (c * 4) ((N.take (c * 4)).map uv)) ∧ Below w.heap.size w wr) (fun _ iv _ => 4 - (intOf iv).toNat)
  case atStart => exact ⟨0, _, _, Nat.zero_le _, rfl, rfl, HO0, hb0⟩
  case round =>
    clear HO0 hb0
    obtain ⟨c, g, d, hc, rfl, rfl, HO, hb⟩ := hrel
    by_cases hlt : c < 4
    · have hci : (c : Int) < 4 := by omega
      go_wp2_with fail
      go_loopw [3, 5] (fun ov iv wx => ∃ r g d : Nat, r ≤ 4 ∧ iv = .int .i64 r ∧ ov = .slice (some ⟨g, 0, none⟩) (c * 4 + r) d ∧ Hid (wx.ownsRow w.heap.size 5 1 (.slice (some ⟨g, 0, none⟩) (c * 4 + r) d) (c * 4 + r) ((N.take (c * 4 + r)).map uv)) ∧ Below w.heap.size w wx) (fun _ iv _ => 4 - (intOf iv).toNat)
      case atStart => exact ⟨0, _, _, Nat.zero_le _, rfl, rfl, HO, hb⟩
      case round =>
        clear HO hb
        obtain ⟨r, g, d, hr, rfl, rfl, HO, hb⟩ := hrel
        by_cases hrl : r < 4
        · have hri : (r : Int) < 4 := by omega
          have HT := Lib.hid (HTK.out (c * 4 + r) (by rw [HN.out]; omega))
          rw [← HU.out c r hlt hrl] at HT
          obtain ⟨p, hp⟩ : ∃ p, c * 4 + r = p := ⟨_, rfl⟩
          have hp1 : c * 4 + (r + 1) = p + 1 := by omega
          rw [hp] at HO HT ⊢
          have HP1 := Lib.hid hp1
          have hpl : p ≤ 15 := by omega
          clear hp hp1
          have HM0 : Hid (mixS l c r 0 = 0) := Lib.hid rfl
          go_wp2_with fail
          go_loopw [6, 7] (fun nv kv wy => ∃ (k : Nat) (x : UInt8), k ≤ 4 ∧ kv = .int .i64 k ∧ nv = uv x ∧ Hid (mixS l c r k = x) ∧ Hid (wy.ownsRow w.heap.size 5 1 (.slice (some ⟨g, 0, none⟩) p d) p ((N.take p).map uv)) ∧ Below w.heap.size w wy) (fun _ kv _ => 4 - (intOf kv).toNat)
          case atStart => exact ⟨0, 0, by omega, rfl, rfl, HM0, HO, hb⟩
          case round =>
            clear HM0 HO hb
            obtain ⟨k, x, hk, rfl, rfl, HX, HO, hb⟩ := hrel
            by_cases hkl : k < 4
            · have hki : (k : Int) < 4 := by omega
              obtain ⟨s, hs⟩ : ∃ s, 4 * c = s := ⟨_, rfl⟩
              obtain ⟨m, hm⟩ : ∃ m, s + k = m := ⟨_, rfl⟩
              have e2 : 4 * (c : Int) = (s : Int) := by omega
              have e3 : (s : Int) + (k : Int) = (m : Int) := by omega
              have hs4 : (s : Int) ≤ 12 := by omega
              have hix := HIX.out m m rfl (by omega)
              have HX2 : Hid (mixS l c r (k + 1) = x ^^^ mul8 (ub l m) (facB r k)) := Lib.hid (by rw [mixS, HX.out, hs, hm])
              have RF : Hid (∀ q, Calls Tryz.prog 104 #[.int .i64 (r : Int), .int .i64 (k : Int)] (wr.drewN q) fun e' w' => e' = .returned (uv (facB r k)) ∧ ∃ q', w' = wr.drewN q') := Lib.hid fun q => (factor_any r k _ hri hki).mono fun e w' ⟨h1, h2⟩ => ⟨h1, q, h2.symm⟩
              generalize facB r k = f at HX2 RF
              generalize ub l m = y at hix HX2
              have RM : Hid (∀ q, Calls Tryz.prog 103 #[.int .u8 (y.toNat : Int), .int .u8 (f.toNat : Int)] (wr.drewN q) fun e' w' => e' = .returned (uv (mul8 y f)) ∧ ∃ q', w' = wr.drewN q') := Lib.hid fun q => (rmul8_any y f _).mono fun e w' ⟨h1, h2⟩ => ⟨h1, q, h2.symm⟩
              generalize mul8 y f = v at HX2 RM
              have hxr := xor_byte x v
              obtain ⟨z, hz⟩ : ∃ z, x ^^^ v = z := ⟨_, rfl⟩
              rw [hz] at HX2 hxr
              clear hs hm hz
              go_wp2_with fail
              go_quiet ((first | (go_at_call 104; with_reducible exact RF.out _) | (go_at_call 103; with_reducible exact RM.out _)))
              go_wp2_with fail
              exact ⟨⟨k + 1, z, by omega, by go_num, rfl, HX2, Lib.hid HO.out, bdn' hb _⟩, by simp [intOf]; omega⟩
            · obtain rfl : k = 4 := by omega
              rw [HX.out] at HT
              have hz := hb.size
              have hnews := news_new wr [uv x] 5
              go_upto_region 7 with (at_builtin; refine wpList_append_own _ rfl _ _ 64 rfl w.heap.size 5 i0 (.int .u8 0) 1 1 Tryz.underlying64 hi hz0 hz1 hz2 rfl (by decide) _ _ _ rfl (own_alloc HO.out _) ⟨wr.heap.size, 0, none⟩ 1 1 [uv x] rfl rfl hnews (by simp [Value.oneCell']) (by unfold maxLen; omega) (by omega) (by simp; omega) ?_; intro v' w6 hown' hgrow _; obtain ⟨g1, c1, rfl⟩ := ownsRow_succ hown'; have HO6 := Lib.hid hown'; have hb6 : Below w.heap.size w w6 := (hb.alloc hb.size _).grown hgrow (by simp; omega) (fun r e => by cases e; exact (HO.out.lt _ rfl).1); clear hown' hnews hgrow)
              go_wp2_with fail
              exact ⟨⟨r + 1, g1, c1, by omega, by go_num, by rw [HP1.out], Lib.hid (by rw [HP1.out, HT.out, List.map_append]; exact HO6.out), hb6⟩, by simp [intOf]; omega⟩
        · obtain rfl : r = 4 := by omega
          have HSE : Hid (c * 4 + 4 = (c + 1) * 4) := Lib.hid (by omega)
          rw [HSE.out] at HO ⊢
          go_wp2_with fail
          exact ⟨⟨c + 1, g, d, by omega, by go_num, rfl, HO, hb⟩, by simp [intOf]; omega⟩
    · obtain rfl : c = 4 := by omega
      rw [List.take_of_length_le (by rw [HN.out]; exact Nat.le_refl 16)] at HO
      have HTX := Lib.hid (text_any w.heap.size g 16 d N wr HO.out HN.out)
      go_wp2_with fail
      refine HTX.out.mono ?_
      rintro e w' ⟨rfl, rfl⟩
      go_wp2_with fail
      go_ret
      exact ⟨rfl, hb⟩
end Go.Proofs.YtcecjoodlmpgnaaGreat
/- A key's words as texts: plain lists; the contracts of the reference's Key and Why. -/
namespace Go.Proofs.YtcecjoodlmpgnaaGreat
open Go.RowKit

/-- A key's words as the reference has them. -/
def wordsL (key : List UInt8) : List (List UInt8) := (List.range (4 * (key.length / 4 + 7))).map (colG (keysF key))
theorem wordsL_len (key : List UInt8) : (wordsL key).length = 4 * (key.length / 4 + 7) := by simp [wordsL]
theorem wordsL_at (key : List UInt8) (i : Nat) (h : i < 4 * (key.length / 4 + 7)) : (wordsL key).getD i [] = colG (keysF key) i := by simp [wordsL, List.getD, h]
theorem take_getD (L : List (List UInt8)) (k : Nat) (h : k < L.length) : L.take (k + 1) = L.take k ++ [L.getD k []] := by
  rw [List.take_succ_eq_append_getElem h]
  simp [List.getD, h]
theorem extract_list (l : List UInt8) (a b : Nat) : (⟨l.toArray⟩ : ByteArray).extract a b = ⟨((l.take b).drop a).toArray⟩ := by
  apply ByteArray.ext
  apply Array.toList_inj.1
  rw [Lib.extract_data]
  simp [List.drop_take]
theorem key_word (key : List UInt8) (h : key.length = 16 ∨ key.length = 32) (i : Nat) (hi : i < key.length / 4) : (key.take (4 * i + 4)).drop (4 * i) = colG (keysF key) i := by
  apply list_ext (n := 4)
  · rw [List.length_drop, List.length_take]; omega
  · exact tab_len _ _
  · intro r hr
    rw [ub_drop, ub_take (by omega)]
    refine Eq.trans ?_ (ub_colG _ _ hr).symm
    rw [keysF_key key h _ (by omega)]
theorem scr_first (y0 y1 y2 y3 : UInt8) (i own : Nat) (h : i % own = 0) : scrW [y0, y1, y2, y3] i own = [box8 y1 ^^^ pw8 (i / own - 1), box8 y2, box8 y3, box8 y0] := by unfold scrW; rw [if_pos h]; rfl
theorem scr_mid (y0 y1 y2 y3 : UInt8) (i own : Nat) (h : i % own ≠ 0) (h4 : own = 8 ∧ i % own = 4) : scrW [y0, y1, y2, y3] i own = [box8 y0, box8 y1, box8 y2, box8 y3] := by unfold scrW; rw [if_neg h, if_pos h4]; rfl
theorem scr_else (y0 y1 y2 y3 : UInt8) (i own : Nat) (h : i % own ≠ 0) (h4 : ¬ (own = 8 ∧ i % own = 4)) : scrW [y0, y1, y2, y3] i own = [y0, y1, y2, y3] := by unfold scrW; rw [if_neg h, if_neg h4]
theorem xorA_four (A B : List UInt8) : xorA 4 A B = xorW A B := rfl
theorem own_at {W : World} {base g c n : Nat} {L : List (List UInt8)} {j : Nat} {x : List UInt8} (h : W.ownsRow base 9 1 (.slice (some ⟨g, 0, none⟩) n c) n ((L.take n).map sv)) (hl : n ≤ L.length) (hj : j < n) (hx : L.getD j [] = x) : W.cell? ⟨g, j, none⟩ = some (sv x) := by
  rw [h.cellAt j (by omega), svs_at _ _ (by rw [List.length_take]; omega), getD_take _ _ _ _ hj, hx]
set_option maxRecDepth 100000 in
set_option maxHeartbeats 1000000 in
theorem rKey_yes (l : List UInt8) (w : World) (hl : l.length = 16 ∨ l.length = 32) : Calls Tryz.prog 11 #[.string ⟨l.toArray⟩] w fun e w' => e = .returned (.bool true) ∧ w = w' := by
  have hs := size_of l
  rcases hl with hl | hl
  all_goals
    rw [hl] at hs
    go_enter Tryz.func11, Tryz.ntmps11
    go_wp2
    go_ret
    exact ⟨rfl, rfl⟩
set_option maxRecDepth 100000 in
set_option maxHeartbeats 1000000 in
theorem rKey_no (l : List UInt8) (w : World) (hl : ¬ (l.length = 16 ∨ l.length = 32)) : Calls Tryz.prog 11 #[.string ⟨l.toArray⟩] w fun e w' => e = .returned (.bool false) ∧ w = w' := by
  have hs := size_of l
  obtain ⟨n, hn⟩ : ∃ n, l.length = n := ⟨_, rfl⟩
  rw [hn] at hs hl
  have h1 : ((n : Int) == 16) = false := by simp; omega
  have h2 : ((n : Int) == 32) = false := by simp; omega
  have h3 : ¬ n = 16 := by omega
  have h4 : ¬ n = 32 := by omega
  clear hn
  go_enter Tryz.func11, Tryz.ntmps11
  go_wp2
  go_ret
  exact ⟨rfl, rfl⟩
end Go.Proofs.YtcecjoodlmpgnaaGreat
/- The contract of the reference's words. -/
namespace Go.Proofs.YtcecjoodlmpgnaaGreat
open Go.RowKit

set_option maxRecDepth 100000 in
set_option maxHeartbeats 8000000 in
theorem rWords_any (key : List UInt8) (own many : Nat) (w : World) (hk : key.length = 16 ∨ key.length = 32) (ho : key.length / 4 = own) (hm : 4 * (own + 7) = many) :
    Calls Tryz.prog 100 #[.string ⟨key.toArray⟩] w fun e w' => ∃ g c, e = .returned (.slice (some ⟨g, 0, none⟩) many c) ∧ w'.ownsRow w.heap.size 9 1 (.slice (some ⟨g, 0, none⟩) many c) many ((wordsL key).map sv) ∧ Below w.heap.size w w' := by
  obtain ⟨i0, hi, hz0, hz1, hz2⟩ := info_parts infoS
  have HTK := Lib.hid (take_getD (wordsL key))
  have HLL : Hid ((wordsL key).length = many) := Lib.hid (by rw [wordsL_len, ho, hm])
  have HAT := Lib.hid (wordsL_at key)
  have HKW := Lib.hid (key_word key hk)
  have HNW := Lib.hid (keysF_word key hk)
  have HEX := Lib.hid (extract_list key)
  have hsz := size_of key
  have HO : Hid ((own = 4 ∨ own = 8) ∧ own ≤ many ∧ many ≤ 60 ∧ 4 * (own + 7) = many) := Lib.hid (by omega)
  have HLK : Hid (key.length = 4 * own) := Lib.hid (by omega)
  rw [ho, hm] at HAT
  rw [ho, hm] at HNW
  rw [ho] at HKW
  obtain ⟨n, hn⟩ : ∃ n, key.length = n := ⟨_, rfl⟩
  rw [hn] at hsz ho HLK
  have hn4 : (n : Int) / 4 = (own : Int) := by omega
  have hn32 : (n : Int) ≤ 32 := by omega
  have ho7 : (own : Int) ≤ 8 := by have := HO.out; omega
  have hmo : 4 * ((own : Int) + 7) = (many : Int) := by omega
  obtain ⟨F, hF⟩ : ∃ F, keysF key = F := ⟨_, rfl⟩
  rw [hF] at HAT HKW HNW
  obtain ⟨L, hL⟩ : ∃ L, wordsL key = L := ⟨_, rfl⟩
  rw [hL] at HTK HLL HAT ⊢
  have HO0 : Hid ((w.alloc (.cells #[] 9)).ownsRow w.heap.size 9 1 (.slice (some ⟨w.heap.size, 0, none⟩) 0 0) 0 ((L.take 0).map sv)) := Lib.hid (own_nil (Blk.new w _ _) (Nat.le_refl _))
  have hb0 := ba (Below.refl w.heap.size w) (.cells #[] 9)
  clear hk ho hm hn hF hL
  go_enter Tryz.func100, Tryz.ntmps100
  go_wp2_with fail
  go_loopw [4, 5] (fun ov iv wr => ∃ k g d : Nat, k ≤ own ∧ iv = .int .i64 k ∧ ov = .slice (some ⟨g, 0, none⟩) k d ∧ Hid (wr.ownsRow w.heap.size 9 1 (.slice (some ⟨g, 0, none⟩) k d) k ((L.take k).map sv)) ∧ Below w.heap.size w wr) (fun _ iv _ => own - (intOf iv).toNat)
  case atStart => exact ⟨0, _, _, Nat.zero_le _, rfl, rfl, HO0, hb0⟩
  case round =>
    clear HO0 hb0
    obtain ⟨k, g, d, hk, rfl, rfl, HO1, hb⟩ := hrel
    by_cases hlt : k < own
    · have hki : (k : Int) < (own : Int) := by omega
      have HT := Lib.hid (HTK.out k (by rw [HLL.out]; have := HO.out; omega))
      rw [HAT.out k (by have := HO.out; omega)] at HT
      have hex := HEX.out (4 * k) (4 * k + 4)
      rw [HKW.out k hlt] at hex
      generalize colG F k = T at hex HT
      obtain ⟨s, hs⟩ : ∃ s, 4 * k = s := ⟨_, rfl⟩
      have e1 : 4 * (k : Int) = (s : Int) := by omega
      obtain ⟨m, hm⟩ : ∃ m, s + 4 = m := ⟨_, rfl⟩
      have e2 : (s : Int) + 4 = (m : Int) := by omega
      have e3 : (m : Int) ≤ (n : Int) := by have := HLK.out; omega
      have e4 : (s : Int) ≤ (m : Int) := by omega
      rw [hs, hm] at hex
      have hz := hb.size
      have hnews := news_new wr [sv T] 9
      clear hs hm
      go_upto_region 5 with (at_builtin; refine wpList_append_own _ rfl _ _ 116 rfl w.heap.size 9 i0 (.string ⟨#[]⟩) 1 16 Tryz.underlying116 hi hz0 hz1 hz2 rfl (by decide) _ _ _ rfl (own_alloc HO1.out _) ⟨wr.heap.size, 0, none⟩ 1 1 [sv T] rfl rfl hnews (by simp [Value.oneCell']) (by have := HO.out; unfold maxLen; omega) (by have := HO.out; omega) (by simp; omega) ?_; intro v' w6 hown' hgrow _; obtain ⟨g1, c1, rfl⟩ := ownsRow_succ hown'; have HO6 := Lib.hid hown'; have hb6 : Below w.heap.size w w6 := (hb.alloc hb.size _).grown hgrow (by simp; omega) (fun r e => by cases e; exact (HO1.out.lt _ rfl).1); clear hown' hnews hgrow)
      go_wp2_with fail
      exact ⟨⟨k + 1, g1, c1, by omega, by go_num, rfl, Lib.hid (by rw [HT.out, List.map_append]; exact HO6.out), hb6⟩, by simp [intOf]; omega⟩
    · obtain rfl : k = own := by omega
      go_wp2_with fail
      go_loopw [4, 6] (fun ov iv wx => ∃ i g d : Nat, k ≤ i ∧ i ≤ many ∧ iv = .int .i64 i ∧ ov = .slice (some ⟨g, 0, none⟩) i d ∧ Hid (wx.ownsRow w.heap.size 9 1 (.slice (some ⟨g, 0, none⟩) i d) i ((L.take i).map sv)) ∧ Below w.heap.size w wx) (fun _ iv _ => many - (intOf iv).toNat)
      case atStart => exact ⟨k, _, _, Nat.le_refl _, HO.out.2.1, rfl, rfl, HO1, hb⟩
      case round =>
        clear HO1 hb hlt hk
        obtain ⟨i, g, d, hki, him, rfl, rfl, HO1, hb⟩ := hrel
        by_cases hlt : i < many
        · have hii : (i : Int) < (many : Int) := by omega
          have hm60 : (many : Int) ≤ 60 := by have := HO.out; omega
          have hk4 : (4 : Int) ≤ (k : Int) := by have := HO.out; omega
          have hik : (k : Int) ≤ (i : Int) := by omega
          have HT := Lib.hid (HTK.out i (by rw [HLL.out]; exact hlt))
          rw [HAT.out i hlt] at HT
          have hnw := HNW.out i hki hlt
          unfold nextW at hnw
          obtain ⟨j, hj⟩ : ∃ j : Nat, i - k = j := ⟨_, rfl⟩
          obtain ⟨m, hm⟩ : ∃ m : Nat, i - 1 = m := ⟨_, rfl⟩
          have e1 : (i : Int) - 1 = (m : Int) := by omega
          have e2 : (i : Int) - (k : Int) = (j : Int) := by omega
          have j1 : (j : Int) < (i : Int) := by omega
          have m1 : (m : Int) < (i : Int) := by omega
          have HCM := Lib.hid (fun (W : World) (hW : W.ownsRow w.heap.size 9 1 (.slice (some ⟨g, 0, none⟩) i d) i ((L.take i).map sv)) => own_at hW (by rw [HLL.out]; omega) (j := m) (by omega) (HAT.out m (by omega)))
          have HCJ := Lib.hid (fun (W : World) (hW : W.ownsRow w.heap.size 9 1 (.slice (some ⟨g, 0, none⟩) i d) i ((L.take i).map sv)) => own_at hW (by rw [HLL.out]; omega) (j := j) (by omega) (HAT.out j (by omega)))
          rw [hj, hm] at hnw
          have HXL : Hid ((colG F j).length = 4) := Lib.hid (tab_len _ _)
          generalize colG F j = X at hnw HCJ HXL
          obtain ⟨y0, y1, y2, y3, hY⟩ := four_list (L := colG F m) (tab_len _ _)
          rw [hY] at hnw HCM
          have HNI : Hid (colG F i = xorW X (scrW [y0, y1, y2, y3] i k)) := Lib.hid hnw
          generalize colG F i = V at HNI HT
          have HSL := Lib.hid (scrW_len y0 y1 y2 y3 i k)
          obtain ⟨T, hT⟩ : ∃ T, scrW [y0, y1, y2, y3] i k = T := ⟨_, rfl⟩
          rw [hT] at HNI HSL
          have HTS := Lib.hid hT
          clear hT
          clear hnw hj hm hY
          have hcm := HCM.out _ HO1.out
          have hon : ¬ k = 0 := by omega
          go_upto_if 43 with fail
          clear hcm
          go_cut [7] from 28 to 82 (fun s7 wx => s7 = .string ⟨T.toArray⟩ ∧ Below wr.heap.size wr wx)
          case first =>
            by_cases hz : i % k = 0
            · have z0 : ((i : Int) % (k : Int) == 0) = true := by simp only [beq_iff_eq]; omega
              have hTQ : T = [box8 y1 ^^^ pw8 (i / k - 1), box8 y2, box8 y3, box8 y0] := by rw [← HTS.out, scr_first _ _ _ _ _ _ hz]
              have hsy : (⟨[y0, y1, y2, y3].toArray⟩ : ByteArray).size = 4 := rfl
              have hx1 : (⟨[y0, y1, y2, y3].toArray⟩ : ByteArray).extract 1 4 = ⟨[y1, y2, y3].toArray⟩ := extract_list _ _ _
              have hx2 : (⟨[y0, y1, y2, y3].toArray⟩ : ByteArray).extract 0 1 = ⟨[y0].toArray⟩ := extract_list _ _ _
              have had : ∀ W : World, (Op.stringOp .add ⟨[y1, y2, y3].toArray⟩ ⟨[y0].toArray⟩).run Tryz.prog W = .ok (.string ⟨[y1, y2, y3, y0].toArray⟩) W := fun W => run_string_add_lists (P := Tryz.prog) W [y1, y2, y3] [y0] (by simp) (by simp)
              have HBX : Hid (∀ W : World, Calls Tryz.prog 77 #[.string ⟨[y1, y2, y3, y0].toArray⟩] W fun e w' => e = .returned (.string ⟨[box8 y1, box8 y2, box8 y3, box8 y0].toArray⟩) ∧ Below W.heap.size W w') := Lib.hid (fun W => rBoxed_any [y1, y2, y3, y0] W (by simp))
              obtain ⟨q, hq⟩ : ∃ q : Nat, i / k = q := ⟨_, rfl⟩
              have hq1 : 1 ≤ q := by rw [← hq]; exact (Nat.one_le_div_iff (by omega)).2 hki
              have hq60 : q ≤ 60 := by rw [← hq]; exact Nat.le_trans (Nat.div_le_self _ _) (by omega)
              obtain ⟨p, hp⟩ : ∃ p : Nat, q - 1 = p := ⟨_, rfl⟩
              rw [hq, hp] at hTQ
              have HQ : Hid ((i : Int) / (k : Int) = (q : Int) ∧ (q : Int) - 1 = (p : Int) ∧ IntKind.i64.wrap (q : Int) = (q : Int) ∧ IntKind.i64.wrap (p : Int) = (p : Int)) := Lib.hid ⟨by rw [← hq]; simp, by omega, by rw [IntKind.wrap_i64]; omega, by rw [IntKind.wrap_i64]; omega⟩
              have HPW := Lib.hid (fun W => rpow2_any p W (by omega))
              have hxr := xor_byte (box8 y1) (pw8 p)
              obtain ⟨x, hx⟩ : ∃ x, box8 y1 ^^^ pw8 p = x := ⟨_, rfl⟩
              rw [hx] at hxr hTQ
              have HXR := Lib.hid hxr
              have HTQ := Lib.hid hTQ
              clear hq hp hx hxr hTQ
              go_wp2_with fail
              refine wp_region_held_drew (S := fun _ => True) (by kernel_rfl) trivial (fun hHeld => ?_)
              refine wpAnyH_take (i := 0) (oi := ⟨some 44, _, _, _, _, _⟩) (v := ?_) rfl (by kernel_rfl) (by kernel_rfl) (by kernel_rfl) (fun _ _ _ h => h) (Or.inl ⟨by rfl, ?_⟩) (by assumption) ?_
              rotate_left
              · (intro w9 hSw; (try dsimp only at hSw); go_simp; try with_reducible rfl)
              try simp only [Act.put, List.setIfInBounds_toArray, List.set_cons_zero, List.set_cons_succ]
              refine wpAnyH_take (i := 1) (oi := ⟨some 45, _, _, _, _, _⟩) (v := .string ⟨[y1, y2, y3].toArray⟩) rfl (by kernel_rfl) (by kernel_rfl) (by kernel_rfl) (fun _ _ _ h => h) (Or.inl ⟨by rfl, ?_⟩) (by assumption) ?_
              · (intro w9 hSw; (try dsimp only at hSw); go_simp)
              try simp only [Act.put, List.setIfInBounds_toArray, List.set_cons_zero, List.set_cons_succ]
              refine wpAnyH_take (i := 2) (oi := ⟨some 46, _, _, _, _, _⟩) (v := ?_) rfl (by kernel_rfl) (by kernel_rfl) (by kernel_rfl) (fun _ _ _ h => h) (Or.inl ⟨by rfl, ?_⟩) (by assumption) ?_
              rotate_left
              · (intro w9 hSw; (try dsimp only at hSw); go_simp; try with_reducible rfl)
              try simp only [Act.put, List.setIfInBounds_toArray, List.set_cons_zero, List.set_cons_succ]
              refine wpAnyH_take (i := 3) (oi := ⟨some 47, _, _, _, _, _⟩) (v := .string ⟨[y0].toArray⟩) rfl (by kernel_rfl) (by kernel_rfl) (by kernel_rfl) (fun _ _ _ h => h) (Or.inl ⟨by rfl, ?_⟩) (by assumption) ?_
              · (intro w9 hSw; (try dsimp only at hSw); go_simp)
              try simp only [Act.put, List.setIfInBounds_toArray, List.set_cons_zero, List.set_cons_succ]
              refine wpAnyH_take (i := 4) (oi := ⟨some 48, _, _, _, _, _⟩) (v := .string ⟨[y1, y2, y3, y0].toArray⟩) rfl (by kernel_rfl) (by kernel_rfl) (by kernel_rfl) (fun _ _ _ h => h) (Or.inl ⟨by rfl, ?_⟩) (by assumption) ?_
              · (intro w9 hSw; (try dsimp only at hSw); go_simp)
              try simp only [Act.put, List.setIfInBounds_toArray, List.set_cons_zero, List.set_cons_succ]
              refine wpAnyH_ready (rs := [5]) (by kernel_rfl) (by simp) ?_
              refine AllReadyH.cons (o := ⟨some 49, _, _, _, _, _⟩) rfl (fun K9 hK9 => ?_) AllReadyH.nil
              go_simp
              go_at_call 77
              refine (HBX.out _).mono ?_
              rintro e w1 ⟨rfl, hb1⟩
              go_wp2_with fail
              refine hK9.out _ _ ?_ (fun hHeld => ?_)
              · trivial
              clear hK9 K9
              try simp only [Act.put, List.setIfInBounds_toArray, List.set_cons_zero, List.set_cons_succ]
              refine wpAnyH_take (i := 6) (oi := ⟨some 7, _, _, _, _, _⟩) (v := ?_) rfl (by kernel_rfl) (by kernel_rfl) (by kernel_rfl) (fun _ _ _ h => h) (Or.inl ⟨by rfl, ?_⟩) (by assumption) ?_
              rotate_left
              · (intro w9 hSw; (try dsimp only at hSw); go_simp; try with_reducible rfl)
              try simp only [Act.put, List.setIfInBounds_toArray, List.set_cons_zero, List.set_cons_succ]
              refine wpAnyH_done (by kernel_rfl) ?_ _
              have hb1' : Below wr.heap.size wr w1 := bt ((Below.refl wr.heap.size wr).drew) hb1
              clear hb1 hHeld had hx1 hx2 hsy HBX
              have hsy : (⟨[box8 y1, box8 y2, box8 y3, box8 y0].toArray⟩ : ByteArray).size = 4 := rfl
              have hx1 : (⟨[box8 y1, box8 y2, box8 y3, box8 y0].toArray⟩ : ByteArray).extract 1 4 = ⟨[box8 y2, box8 y3, box8 y0].toArray⟩ := extract_list _ _ _
              have had : ∀ W : World, (Op.stringOp .add ⟨[x].toArray⟩ ⟨[box8 y2, box8 y3, box8 y0].toArray⟩).run Tryz.prog W = .ok (.string ⟨[x, box8 y2, box8 y3, box8 y0].toArray⟩) W := fun W => run_string_add_lists (P := Tryz.prog) W [x] [box8 y2, box8 y3, box8 y0] (by simp) (by simp)
              have hix := index_of [box8 y1, box8 y2, box8 y3, box8 y0] 0 0 rfl (by simp)
              rw [show ub [box8 y1, box8 y2, box8 y3, box8 y0] 0 = box8 y1 from rfl] at hix
              go_wp2_with fail
              refine wp_region_held_drew (S := fun _ => True) (by kernel_rfl) trivial (fun hHeld => ?_)
              refine wpAnyH_take (i := 0) (oi := ⟨some 50, _, _, _, _, _⟩) (v := ?_) rfl (by kernel_rfl) (by kernel_rfl) (by kernel_rfl) (fun _ _ _ h => h) (Or.inl ⟨by rfl, ?_⟩) (by assumption) ?_
              rotate_left
              · (intro w9 hSw; (try dsimp only at hSw); go_simp; try with_reducible rfl)
              try simp only [Act.put, List.setIfInBounds_toArray, List.set_cons_zero, List.set_cons_succ]
              refine wpAnyH_take (i := 1) (oi := ⟨some 51, _, _, _, _, _⟩) (v := uv (box8 y1)) rfl (by kernel_rfl) (by kernel_rfl) (by kernel_rfl) (fun _ _ _ h => h) (Or.inl ⟨by rfl, ?_⟩) (by assumption) ?_
              · (intro w9 hSw; (try dsimp only at hSw); go_simp)
              try simp only [Act.put, List.setIfInBounds_toArray, List.set_cons_zero, List.set_cons_succ]
              refine wpAnyH_take (i := 2) (oi := ⟨some 52, _, _, _, _, _⟩) (v := ?_) rfl (by kernel_rfl) (by kernel_rfl) (by kernel_rfl) (fun _ _ _ h => h) (Or.inl ⟨by rfl, ?_⟩) (by assumption) ?_
              rotate_left
              · (intro w9 hSw; (try dsimp only at hSw); go_simp; try with_reducible rfl)
              try simp only [Act.put, List.setIfInBounds_toArray, List.set_cons_zero, List.set_cons_succ]
              refine wpAnyH_take (i := 3) (oi := ⟨some 53, _, _, _, _, _⟩) (v := ?_) rfl (by kernel_rfl) (by kernel_rfl) (by kernel_rfl) (fun _ _ _ h => h) (Or.inl ⟨by rfl, ?_⟩) (by assumption) ?_
              rotate_left
              · (intro w9 hSw; (try dsimp only at hSw); go_simp; try with_reducible rfl)
              try simp only [Act.put, List.setIfInBounds_toArray, List.set_cons_zero, List.set_cons_succ]
              refine wpAnyH_take (i := 4) (oi := ⟨some 54, _, _, _, _, _⟩) (v := .int .i64 (q : Int)) rfl (by kernel_rfl) (by kernel_rfl) (by kernel_rfl) (fun _ _ _ h => h) (Or.inl ⟨by rfl, ?_⟩) (by assumption) ?_
              · (intro w9 hSw; (try dsimp only at hSw); go_simp; (try rw [HQ.out.1]); rw [HQ.out.2.2.1])
              try simp only [Act.put, List.setIfInBounds_toArray, List.set_cons_zero, List.set_cons_succ]
              refine wpAnyH_take (i := 5) (oi := ⟨some 55, _, _, _, _, _⟩) (v := .int .i64 (p : Int)) rfl (by kernel_rfl) (by kernel_rfl) (by kernel_rfl) (fun _ _ _ h => h) (Or.inl ⟨by rfl, ?_⟩) (by assumption) ?_
              · (intro w9 hSw; (try dsimp only at hSw); go_simp; (try rw [HQ.out.2.1]); rw [HQ.out.2.2.2])
              try simp only [Act.put, List.setIfInBounds_toArray, List.set_cons_zero, List.set_cons_succ]
              refine wpAnyH_take (i := 10) (oi := ⟨some 60, _, _, _, _, _⟩) (v := ?_) rfl (by kernel_rfl) (by kernel_rfl) (by kernel_rfl) (fun _ _ _ h => h) (Or.inl ⟨by rfl, ?_⟩) (by assumption) ?_
              rotate_left
              · (intro w9 hSw; (try dsimp only at hSw); go_simp; try with_reducible rfl)
              try simp only [Act.put, List.setIfInBounds_toArray, List.set_cons_zero, List.set_cons_succ]
              refine wpAnyH_take (i := 11) (oi := ⟨some 61, _, _, _, _, _⟩) (v := .string ⟨[box8 y2, box8 y3, box8 y0].toArray⟩) rfl (by kernel_rfl) (by kernel_rfl) (by kernel_rfl) (fun _ _ _ h => h) (Or.inl ⟨by rfl, ?_⟩) (by assumption) ?_
              · (intro w9 hSw; (try dsimp only at hSw); go_simp)
              try simp only [Act.put, List.setIfInBounds_toArray, List.set_cons_zero, List.set_cons_succ]
              refine wpAnyH_ready (rs := [6]) (by kernel_rfl) (by simp) ?_
              refine AllReadyH.cons (o := ⟨some 56, _, _, _, _, _⟩) rfl (fun K9 hK9 => ?_) AllReadyH.nil
              go_simp
              go_at_call 125
              refine (HPW.out _).mono ?_
              rintro e x6 ⟨rfl, rfl⟩
              go_wp2_with fail
              refine hK9.out _ _ ?_ (fun hHeld => ?_)
              · trivial
              clear hK9 K9
              try simp only [Act.put, List.setIfInBounds_toArray, List.set_cons_zero, List.set_cons_succ]
              refine wpAnyH_take (i := 7) (oi := ⟨some 57, _, _, _, _, _⟩) (v := uv x) rfl (by kernel_rfl) (by kernel_rfl) (by kernel_rfl) (fun _ _ _ h => h) (Or.inl ⟨by rfl, ?_⟩) (by assumption) ?_
              · (intro w9 hSw; have hxr := HXR.out; (try dsimp only at hSw); go_simp)
              try simp only [Act.put, List.setIfInBounds_toArray, List.set_cons_zero, List.set_cons_succ]
              refine wpAnyH_ready (rs := [8]) (by kernel_rfl) (by simp) ?_
              refine AllReadyH.cons (o := ⟨some 58, _, _, _, _, _⟩) rfl (fun K9 hK9 => ?_) AllReadyH.nil
              go_simp
              refine hK9.out _ _ ?_ (fun hHeld => ?_)
              · trivial
              clear hK9 K9
              try simp only [Act.put, List.setIfInBounds_toArray, List.set_cons_zero, List.set_cons_succ]
              refine wpAnyH_ready (rs := [9]) (by kernel_rfl) (by simp) ?_
              refine AllReadyH.cons (o := ⟨some 59, _, _, _, _, _⟩) rfl (fun K9 hK9 => ?_) AllReadyH.nil
              go_simp
              go_at_call 101
              refine (text_any w1.heap.size w1.heap.size 1 1 [x] _ ⟨rfl, .inr ⟨_, 1, #[uv x], rfl, Nat.le_refl _, heap_alloc_new w1.drew _, Nat.le_refl _, by unfold maxLen; omega, rfl, rfl⟩⟩ rfl).mono ?_
              rintro e x7 ⟨rfl, rfl⟩
              go_wp2_with fail
              refine hK9.out _ _ ?_ (fun hHeld => ?_)
              · trivial
              clear hK9 K9
              try simp only [Act.put, List.setIfInBounds_toArray, List.set_cons_zero, List.set_cons_succ]
              refine wpAnyH_take (i := 12) (oi := ⟨some 62, _, _, _, _, _⟩) (v := .string ⟨[x, box8 y2, box8 y3, box8 y0].toArray⟩) rfl (by kernel_rfl) (by kernel_rfl) (by kernel_rfl) (fun _ _ _ h => h) (Or.inl ⟨by rfl, ?_⟩) (by assumption) ?_
              · (intro w9 hSw; (try dsimp only at hSw); go_simp)
              try simp only [Act.put, List.setIfInBounds_toArray, List.set_cons_zero, List.set_cons_succ]
              refine wpAnyH_take (i := 13) (oi := ⟨some 7, _, _, _, _, _⟩) (v := ?_) rfl (by kernel_rfl) (by kernel_rfl) (by kernel_rfl) (fun _ _ _ h => h) (Or.inl ⟨by rfl, ?_⟩) (by assumption) ?_
              rotate_left
              · (intro w9 hSw; (try dsimp only at hSw); go_simp; try with_reducible rfl)
              try simp only [Act.put, List.setIfInBounds_toArray, List.set_cons_zero, List.set_cons_succ]
              refine wpAnyH_done (by kernel_rfl) ?_ _
              go_wp2_with fail
              go_meet
              exact ⟨by rw [HTQ.out], ba hb1'.drew _⟩
            · have z0 : ((i : Int) % (k : Int) == 0) = false := by simp only [beq_eq_false_iff_ne]; omega
              by_cases h4 : k = 8 ∧ i % k = 4
              · have HTQ : Hid (T = [box8 y0, box8 y1, box8 y2, box8 y3]) := Lib.hid (by rw [← HTS.out, scr_mid _ _ _ _ _ _ hz h4])
                obtain ⟨rfl, h44⟩ := h4
                have z1 : ((i : Int) % 8 == 4) = true := by simp only [beq_iff_eq]; omega
                have z2 : ((i : Int) % 8 == 0) = false := by simp only [beq_eq_false_iff_ne]; omega
                have HBX : Hid (∀ W : World, Calls Tryz.prog 77 #[.string ⟨[y0, y1, y2, y3].toArray⟩] W fun e w' => e = .returned (.string ⟨[box8 y0, box8 y1, box8 y2, box8 y3].toArray⟩) ∧ Below W.heap.size W w') := Lib.hid (fun W => rBoxed_any [y0, y1, y2, y3] W (by simp))
                go_wp2_with fail
                refine (HBX.out _).mono ?_
                rintro e w1 ⟨rfl, hb1⟩
                go_wp2_with fail
                go_meet
                exact ⟨by rw [HTQ.out], hb1⟩
              · have HTQ : Hid (T = [y0, y1, y2, y3]) := Lib.hid (by rw [← HTS.out, scr_else _ _ _ _ _ _ hz h4])
                rcases HO.out.1 with rfl | rfl
                · have z2 : ((i : Int) % 4 == 0) = false := z0
                  clear z0 h4
                  go_wp2_with fail
                  go_meet
                  exact ⟨by rw [HTQ.out], Below.refl _ _⟩
                · have z2 : ((i : Int) % 8 == 4) = false := by
                    have h8 : ¬ i % 8 = 4 := fun h => h4 ⟨rfl, h⟩
                    simp only [beq_eq_false_iff_ne]
                    omega
                  have z3 : ((i : Int) % 8 == 0) = false := z0
                  clear z0 h4
                  go_wp2_with fail
                  go_meet
                  exact ⟨by rw [HTQ.out], Below.refl _ _⟩
          case rest =>
            obtain ⟨rfl, hbc⟩ := hcut
            have HOC := Lib.hid (own_later HO1.out hbc)
            have hbC := bt hb hbc
            have hcj := HCJ.out _ HOC.out
            have HXO := Lib.hid (fun W => rXor_any X T 4 W HXL.out HSL.out (by omega))
            rw [xorA_four, ← HNI.out] at HXO
            clear HO1 hb hbc HCM HCJ HNI
            go_wp2_with fail
            refine (HXO.out _).mono ?_
            rintro e w5 ⟨rfl, hb5⟩
            have HO5 := Lib.hid (own_later HOC.out hb5)
            have hB5 := bt hbC hb5
            have hnews := news_new w5 [sv V] 9
            have hz5 := hB5.size
            clear HOC hbC hb5 hcj HXO
            go_wp2_with (at_builtin; refine wpList_append_own _ rfl _ _ 116 rfl w.heap.size 9 i0 (.string ⟨#[]⟩) 1 16 Tryz.underlying116 hi hz0 hz1 hz2 rfl (by decide) _ _ _ rfl (own_alloc HO5.out _) ⟨w5.heap.size, 0, none⟩ 1 1 [sv V] rfl rfl hnews (by simp [Value.oneCell']) (by unfold maxLen; omega) (by omega) (by simp; omega) ?_; intro v' w6 hown' hgrow _; obtain ⟨g1, c1, rfl⟩ := ownsRow_succ hown'; have HO6 := Lib.hid hown'; have hb6 : Below w.heap.size w w6 := (hB5.alloc hB5.size _).grown hgrow (by simp; omega) (fun r e => by cases e; exact (HO5.out.lt _ rfl).1); clear hown' hnews hgrow)
            exact ⟨⟨i + 1, g1, c1, by omega, by omega, by go_num, rfl, Lib.hid (by rw [HT.out, List.map_append]; exact HO6.out), hb6⟩, by simp [intOf]; omega⟩
        · obtain rfl : i = many := by omega
          rw [List.take_of_length_le (Nat.le_of_eq HLL.out)] at HO1
          go_wp2_with fail
          go_ret
          exact ⟨g, d, rfl, HO1.out, hb⟩
end Go.Proofs.YtcecjoodlmpgnaaGreat
/- A key's round keys as texts. -/
namespace Go.Proofs.YtcecjoodlmpgnaaGreat
open Go.RowKit

theorem own_mono {W : World} {base b : Nat} {e : TypeId} {size : Nat} {v : Value} {n : Nat} {xs : List Value} (h : W.ownsRow base e size v n xs) (hb : b ≤ base) : W.ownsRow b e size v n xs := by
  obtain ⟨h1, h2⟩ := h
  refine ⟨h1, ?_⟩
  rcases h2 with h2 | ⟨g, cap, cur, hv, hg, r⟩
  · exact Or.inl h2
  · exact Or.inr ⟨g, cap, cur, hv, Nat.le_trans hb hg, r⟩
/-- A key's round keys. -/
def keysL (key : List UInt8) : List (List UInt8) := (List.range (key.length / 4 + 7)).map (keyAt (keysF key))
theorem keysL_len (key : List UInt8) : (keysL key).length = key.length / 4 + 7 := by simp [keysL]
theorem keysL_take (key : List UInt8) (k : Nat) (h : k < key.length / 4 + 7) : (keysL key).take (k + 1) = (keysL key).take k ++ [keyAt (keysF key) k] := by
  rw [List.take_succ_eq_append_getElem (by rw [keysL_len]; exact h)]
  congr 2
  simp [keysL]
end Go.Proofs.YtcecjoodlmpgnaaGreat
