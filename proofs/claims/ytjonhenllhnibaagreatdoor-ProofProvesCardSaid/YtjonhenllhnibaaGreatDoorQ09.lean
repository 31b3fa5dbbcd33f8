/- Texts of this seat, one behind the other: HSumC. -/
import Derived.StillTailTactics
import Derived.Test.YtjonhenllhnibaaGreatDoorQ07
import Derived.Test.YtjonhenllhnibaaGreatDoorQ08
/- The contract of Sum. -/
namespace Go.Proofs.YtjonhenllhnibaaGreatDoor
open Go.RowKit

theorem cut_block (P : List UInt8) (k : Nat) : (⟨(P.drop (64 * k)).toArray⟩ : ByteArray).extract 0 64 = ⟨(blockAt P k).toArray⟩ := by
  apply ByteArray.ext
  apply Array.toList_inj.1
  rw [Lib.extract_data]
  simp [blockAt]
theorem cut_rest (P : List UInt8) (k : Nat) (n : Nat) (hn : n = (P.drop (64 * k)).length) : (⟨(P.drop (64 * k)).toArray⟩ : ByteArray).extract 64 n = ⟨(P.drop (64 * (k + 1))).toArray⟩ := by
  apply ByteArray.ext
  apply Array.toList_inj.1
  rw [Lib.extract_data]
  subst hn
  rw [show 64 * (k + 1) = 64 * k + 64 by omega, ← List.drop_drop]
  exact List.take_of_length_le (by simp; omega)

theorem not_empty (S : ByteArray) (h : 0 < S.size) : S.toList.isEmpty = false := by
  rw [Lib.toList_data]
  have h2 : S.data.toList.length = S.data.size := Array.length_toList
  have h3 : 0 < S.data.size := h
  cases hl : S.data.toList with
  | nil => rw [hl, List.length_nil] at h2; omega
  | cons x l => rfl
theorem is_empty (S : ByteArray) (h : S.size = 0) : S.toList.isEmpty = true := by
  rw [Lib.toList_data]
  have h2 : S.data.toList.length = S.data.size := Array.length_toList
  have h3 : S.data.size = 0 := h
  cases hl : S.data.toList with
  | nil => rfl
  | cons x l => rw [hl, List.length_cons] at h2; omega

set_option maxRecDepth 100000 in
set_option maxHeartbeats 4000000 in
theorem sum_any (s : List UInt8) (w : World) (hs : s.length ≤ 65536) :
    Calls Tryz.prog 42 #[.string ⟨s.toArray⟩] w fun e w' => e = .returned (.string ⟨(hsumL s).toArray⟩) ∧ Below w.heap.size w w' := by
  have hPl := padL_len s
  have hPm := padL_mod s
  have hZl := padZ_lt s.length
  obtain ⟨nb, hnb⟩ : ∃ nb, (padL s).length / 64 = nb := ⟨_, rfl⟩
  have hPn : (padL s).length = 64 * nb := by omega
  have hsum : hsumL s = bytesW (hsumN (padL s) nb) := by rw [← hnb]; rfl
  have HPAD := Lib.hid (fun W => pad_any s W (by omega))
  obtain ⟨P, hP⟩ : ∃ P, padL s = P := ⟨_, rfl⟩
  have HSUM := Lib.hid hsum
  have hnb2 : nb ≤ 1100 := by omega
  rw [hP] at hPn HSUM HPAD
  have HPN := Lib.hid hPn
  have HF : Hid (∀ W, Calls Tryz.prog 64 #[] W fun e w' => e = .returned (.agg (hkeysL.map wv).toArray) ∧ Below W.heap.size W w') := Lib.hid keys_any
  have HONE := Lib.hid (words_one hkeysL)
  have HLEN : Hid ((hkeysL.map wv).length = 64) := Lib.hid rfl
  have HZS := Lib.hid (zrow_size hkeysL 64 0 (by omega) rfl)
  have HG : Hid (∀ W, Calls Tryz.prog 65 #[] W fun e w' => e = .returned (.agg (startL.map wv).toArray) ∧ Below W.heap.size W w') := Lib.hid start_any
  have HONS := Lib.hid (words_one startL)
  have HLES : Hid ((startL.map wv).length = 8) := Lib.hid rfl
  have HZT := Lib.hid (zrow_size startL 8 0 (by omega) rfl)
  have HMX : Hid (∀ (a b c d e f g h : Nat) (B : List UInt8) (W : World) (kb : Nat), (∀ x ∈ [a, b, c, d, e, f, g, h], x < 4294967296) → B.length = 64 → Blk W kb 94 (hkeysL.map wv).toArray → Calls Tryz.prog 67 #[.agg #[wv a, wv b, wv c, wv d, wv e, wv f, wv g, wv h], .string ⟨B.toArray⟩, .pointer (some ⟨kb, 0, none⟩)] W fun e' w' => e' = .returned (.agg ((mixL [a, b, c, d, e, f, g, h] B).map wv).toArray) ∧ Below W.heap.size W w') := Lib.hid fun a b c d e f g h B W kb hs hB hk => hmixed_any a b c d e f g h B kb W hs hB hk
  obtain ⟨L, hL⟩ : ∃ L, hkeysL.map wv = L := ⟨_, rfl⟩
  rw [hL] at HF HONE HLEN HMX
  have HS0 : Hid (∃ a b c d e f g h, startL = [a, b, c, d, e, f, g, h] ∧ startL.map wv = [wv a, wv b, wv c, wv d, wv e, wv f, wv g, wv h]) := Lib.hid ⟨_, _, _, _, _, _, _, _, rfl, rfl⟩
  obtain ⟨R, hR⟩ : ∃ R, startL.map wv = R := ⟨_, rfl⟩
  rw [hR] at HG HONS HLES HS0
  clear hPl hPm hZl hnb hsum hP hPn hL hR
  go_enter Tryz.func42, Tryz.ntmps42
  go_wp2_with fail
  refine (HF.out _).mono ?_
  rintro e w1 ⟨rfl, hb1⟩
  have z1 := hb1.size
  have HZ := Lib.hid (Blk.new w1 94 (zrow hkeysL 64 0))
  go_wp2_with (refine wpList_store_mid rfl _ _ _ rfl _ _ L.toArray rfl rfl (HZ.out.there (by rw [List.size_toArray, HLEN.out, HZS.out]; exact Nat.le_refl _)) (by rw [List.size_toArray, HLEN.out]; kernel_rfl) (all_oneCell_toArray HONE.out) ?_)
  generalize hw2 : World.setCells (World.alloc w1 (Obj.cells _ 94)) w1.heap.size 0 L = w2
  have K2 : Hid (Blk w2 w1.heap.size 94 L.toArray) := Lib.hid (by rw [← hw2]; exact HZ.out.whole L (by rw [HLEN.out, HZS.out]))
  have hB2 : Below w.heap.size w w2 := by rw [← hw2]; exact bw (ba hb1 _) z1 _ _
  obtain ⟨kb, hkb⟩ : ∃ kb, w1.heap.size = kb := ⟨_, rfl⟩
  rw [hkb] at K2 z1 ⊢
  clear hw2 HZ hb1 hkb w1
  go_wp2_with fail
  refine (HG.out _).mono ?_
  rintro e w3 ⟨rfl, hb3⟩
  have hB3 := bt hB2 hb3
  have z3 := hB3.size
  have K3 : Hid (Blk w3 kb 94 L.toArray) := Lib.hid (K2.out.below hb3)
  have n3 := K3.out.lt
  have HZ := Lib.hid (Blk.new w3 97 (zrow startL 8 0))
  go_wp2_with (refine wpList_store_mid rfl _ _ _ rfl _ _ R.toArray rfl rfl (HZ.out.there (by rw [List.size_toArray, HLES.out, HZT.out]; exact Nat.le_refl _)) (by rw [List.size_toArray, HLES.out]; kernel_rfl) (all_oneCell_toArray HONS.out) ?_)
  generalize hw4 : World.setCells (World.alloc w3 (Obj.cells _ 97)) w3.heap.size 0 R = w4
  have S4 : Hid (Blk w4 w3.heap.size 97 R.toArray) := Lib.hid (by rw [← hw4]; exact HZ.out.whole R (by rw [HLES.out, HZT.out]))
  have K4 : Hid (Blk w4 kb 94 L.toArray) := Lib.hid (by rw [← hw4]; exact (K3.out.alloc _).far_ (by omega) _ _)
  have hB4 : Below w.heap.size w w4 := by rw [← hw4]; exact bw (ba hB3 _) z3 _ _
  obtain ⟨p, hp⟩ : ∃ p, w3.heap.size = p := ⟨_, rfl⟩
  rw [hp] at S4 z3 n3 ⊢
  clear hw4 HZ hb3 hB3 K3 K2 hB2 hp w3 w2
  go_wp2_with fail
  refine (HPAD.out _).mono ?_
  rintro e w5 ⟨rfl, hb5⟩
  have hB5 := bt hB4 hb5
  have S5 := Lib.hid (S4.out.below hb5)
  have K5 := Lib.hid (K4.out.below hb5)
  clear hB4 hb5 S4 K4 w4
  go_wp2_with fail
  go_loopw [5] (fun sv wr => ∃ (k a b c d e f g h : Nat) (S : ByteArray), k ≤ nb ∧ sv = .string S ∧ Hid (S = ⟨(P.drop (64 * k)).toArray⟩) ∧ Hid (hsumN P k = [a, b, c, d, e, f, g, h]) ∧ Hid (Blk wr p 97 #[wv a, wv b, wv c, wv d, wv e, wv f, wv g, wv h]) ∧ Hid (Blk wr kb 94 L.toArray) ∧ Below w.heap.size w wr) (fun sv _ => match sv with | .string x => x.size | _ => 0)
  case atStart =>
    obtain ⟨a, b, c, d, e, f, g, h, h1, h2⟩ := HS0.out
    exact ⟨0, a, b, c, d, e, f, g, h, _, Nat.zero_le _, rfl, Lib.hid (by simp), Lib.hid h1, Lib.hid (by have := S5.out; rw [h2] at this; exact this), K5, hB5⟩
  case round =>
    clear S5 K5 hB5
    obtain ⟨k, a, b, c, d, e, f, g, h, S, hk, rfl, HSS, HN, SB, KB, hb⟩ := hrel
    by_cases hlt : k < nb
    · have hex0 := cut_block P k
      have hln : (P.drop (64 * k)).length = 64 * nb - 64 * k := by rw [List.length_drop, HPN.out]
      have hex1 := cut_rest P k _ hln.symm
      have hsz : S.size = 64 * nb - 64 * k := by rw [HSS.out, size_of, hln]
      rw [← HSS.out] at hex0 hex1
      obtain ⟨m, hm⟩ : ∃ m, 64 * nb - 64 * k = m := ⟨_, rfl⟩
      rw [hm] at hsz hex1
      have hm1 : 64 ≤ m := by omega
      have hm2 : (64 : Int) ≤ (m : Int) := by omega
      have HBL : Hid ((blockAt P k).length = 64) := Lib.hid (by rw [blockAt, List.length_take, List.length_drop, HPN.out]; omega)
      obtain ⟨T, hT⟩ : ∃ T : ByteArray, ⟨(P.drop (64 * (k + 1))).toArray⟩ = T := ⟨_, rfl⟩
      rw [hT] at hex1
      have HT := Lib.hid hT
      have HTS : Hid (T.size = m - 64) := Lib.hid (by rw [← hT, size_of, List.length_drop, HPN.out]; omega)
      have HSZ := Lib.hid hsz
      have HX0 := Lib.hid hex0
      have HX1 := Lib.hid hex1
      have hlts : ∀ x ∈ [a, b, c, d, e, f, g, h], x < 4294967296 := by rw [← HN.out]; exact hsumN_lt P k
      have HLT := Lib.hid hlts
      have HMC := Lib.hid (HMX.out a b c d e f g h (blockAt P k) wr.drew kb hlts HBL.out KB.out.drew)
      clear hT hln hm hlts hex1
      have c0 := SB.out.cell 0
      have c1 := SB.out.cell 1
      have c2 := SB.out.cell 2
      have c3 := SB.out.cell 3
      have c4 := SB.out.cell 4
      have c5 := SB.out.cell 5
      have c6 := SB.out.cell 6
      have c7 := SB.out.cell 7
      simp only [List.getElem?_toArray, List.getElem?_cons_zero, List.getElem?_cons_succ] at c0 c1 c2 c3 c4 c5 c6 c7
      have hne := not_empty S (by omega)
      go_wp2_with fail
      go_still_tail 3, (by kernel_rfl)
      change wpList _ _ _ _ _ wr.drew
      obtain ⟨wo, hwo⟩ : ∃ wo, wr.drew = wo := ⟨_, rfl⟩
      have SBo : Hid (Blk wo p 97 #[wv a, wv b, wv c, wv d, wv e, wv f, wv g, wv h]) := Lib.hid (by rw [← hwo]; exact SB.out.drew)
      have KBo : Hid (Blk wo kb 94 L.toArray) := Lib.hid (by rw [← hwo]; exact KB.out.drew)
      have hbo : Below w.heap.size w wo := by rw [← hwo]; exact hb.drew
      rw [hwo] at HMC ⊢
      clear hwo SB KB hb c0 c1 c2 c3 c4 c5 c6 c7
      obtain ⟨a', b', c', d', e', f', g', h', hM⟩ := eight_of (mixL [a, b, c, d, e, f, g, h] (blockAt P k)) (mixL_len _ _)
      have HN2 : Hid (hsumN P (k + 1) = [a', b', c', d', e', f', g', h']) := Lib.hid (by rw [hsumN, HN.out, hM])
      have HONE6 := Lib.hid (words_one (mixL [a, b, c, d, e, f, g, h] (blockAt P k)))
      have HM6 : Hid ((mixL [a, b, c, d, e, f, g, h] (blockAt P k)).map wv = [wv a', wv b', wv c', wv d', wv e', wv f', wv g', wv h']) := Lib.hid (by rw [hM]; rfl)
      have HL6 : Hid (((mixL [a, b, c, d, e, f, g, h] (blockAt P k)).map wv).length = 8) := Lib.hid (by rw [hM]; rfl)
      obtain ⟨M6, hM6⟩ : ∃ M6, (mixL [a, b, c, d, e, f, g, h] (blockAt P k)).map wv = M6 := ⟨_, rfl⟩
      rw [hM6] at HMC HONE6 HM6 HL6
      clear hM hM6
      go_wp2_with fail
      refine HMC.out.mono ?_
      rintro e w6 ⟨rfl, hb6⟩
      have SB6 : Hid (Blk w6 p 97 #[wv a, wv b, wv c, wv d, wv e, wv f, wv g, wv h]) := Lib.hid (SBo.out.below hb6)
      have KB6 := Lib.hid (KBo.out.below hb6)
      have hB6 := bt hbo hb6
      clear SBo KBo hbo hb6
      have hsz := HSZ.out
      have hex1 := HX1.out
      go_wp2_with (refine wpList_store_mid rfl _ _ _ rfl _ _ M6.toArray rfl rfl (SB6.out.there (by rw [List.size_toArray, HL6.out]; exact Nat.le_refl 8)) (by rw [List.size_toArray, HL6.out]; kernel_rfl) (all_oneCell_toArray HONE6.out) ?_)
      have SB7 : Hid (Blk (w6.setCells p 0 M6) p 97 #[wv a', wv b', wv c', wv d', wv e', wv f', wv g', wv h']) := Lib.hid (by have := SB6.out.whole M6 HL6.out; rw [HM6.out] at this ⊢; exact this)
      have KB7 : Hid (Blk (w6.setCells p 0 M6) kb 94 L.toArray) := Lib.hid (KB6.out.far_ (by omega) _ _)
      have hB7 := bw hB6 (show w.heap.size ≤ p by omega) 0 M6
      go_wp2_with fail
      refine ⟨⟨k + 1, a', b', c', d', e', f', g', h', T, by omega, rfl, Lib.hid HT.out.symm, HN2, SB7, KB7, hB7⟩, ?_⟩
      show T.size < S.size
      rw [HTS.out, HSZ.out]
      omega
    · have hkn : k = nb := by omega
      have hS0 : S.size = 0 := by rw [HSS.out, size_of, List.length_drop, HPN.out, hkn]; omega
      have hne := is_empty S hS0
      rw [hkn] at HN
      have hlts : ∀ x ∈ [a, b, c, d, e, f, g, h], x < 4294967296 := by rw [← HN.out]; exact hsumN_lt P nb
      have HTO := Lib.hid (htold_any a b c d e f g h hlts wr)
      have HE : Hid (hsumL s = bytesW [a, b, c, d, e, f, g, h]) := Lib.hid (by rw [HSUM.out, HN.out])
      have c0 := SB.out.cell 0
      have c1 := SB.out.cell 1
      have c2 := SB.out.cell 2
      have c3 := SB.out.cell 3
      have c4 := SB.out.cell 4
      have c5 := SB.out.cell 5
      have c6 := SB.out.cell 6
      have c7 := SB.out.cell 7
      simp only [List.getElem?_toArray, List.getElem?_cons_zero, List.getElem?_cons_succ] at c0 c1 c2 c3 c4 c5 c6 c7
      clear hlts hS0 hkn
      go_wp2_with fail
      refine HTO.out.mono ?_
      rintro e' w7 ⟨rfl, hb7⟩
      clear c0 c1 c2 c3 c4 c5 c6 c7
      go_wp2_with fail
      go_ret
      rw [HE.out]
      exact ⟨rfl, bt hb hb7⟩
end Go.Proofs.YtjonhenllhnibaaGreatDoor
