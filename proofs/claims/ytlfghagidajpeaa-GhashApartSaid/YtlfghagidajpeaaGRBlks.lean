/- The contracts of the reference's Blocks and Sum. -/
import Derived.Test.YtlfghagidajpeaaGRXor
import Derived.Test.YtlfghagidajpeaaGXor
namespace Go.Proofs.Ytlfghagidajpeaa
open Go.RowKit

theorem blocksL_is (h t : List UInt8) (hh : h.length ≤ 80) (ht : t.length ≤ 80) : (blocksL h t).map sv = ((fillT h).map sv ++ (fillT t).map sv) ++ [sv (beL 8 (8 * h.length) ++ beL 8 (8 * t.length))] := by
  rw [be_of (by show _ < 18446744073709551616; omega) (by show _ < 18446744073709551616; omega)]
  simp [blocksL, blocksN, fillT, lenN]

set_option maxRecDepth 100000 in
set_option maxHeartbeats 4000000 in
theorem rblocks_any (h t : List UInt8) (w : World) (hh : h.length ≤ 80) (ht : t.length ≤ 80) :
    Calls Try.prog 14 #[.string ⟨h.toArray⟩, .string ⟨t.toArray⟩] w fun e w' => ∃ A c, e = .returned (.slice A (blocksN h t).length c) ∧ SR w' A (blocksL h t) ∧ Below w.heap.size w w' := by
  obtain ⟨i0, hi0, hz0, hz1, hz2⟩ := info_parts infoS
  have HBL := Lib.hid (blocksL_is h t hh ht)
  have HLN : Hid ((blocksN h t).length = (h.length + 15) / 16 + (t.length + 15) / 16 + 1) := Lib.hid (blocksN_len h t)
  have HLL : Hid ((blocksL h t).length = (blocksN h t).length) := Lib.hid (by simp [blocksL])
  have HF1 := Lib.hid (fun W => rfilled_any h h.length W rfl hh)
  have HF2 := Lib.hid (fun W => rfilled_any t t.length W rfl ht)
  have HT2L : Hid (((fillT t).map sv).length = (t.length + 15) / 16 * 1) := Lib.hid (by rw [List.length_map, fillT_len, Nat.mul_one])
  have HT2O : Hid (∀ u ∈ (fillT t).map sv, u.oneCell' = true) := Lib.hid (by
    intro u hu
    obtain ⟨x, _, rfl⟩ := List.mem_map.1 hu
    rfl)
  have HH1 := Lib.hid (fun W => high_any (8 * h.length) W (by omega))
  have HH2 := Lib.hid (fun W => high_any (8 * t.length) W (by omega))
  have HJ := Lib.hid (join_text (beL 8 (8 * h.length)) (beL 8 (8 * t.length)))
  have HBE : Hid ((beL 8 (8 * h.length)).length = 8 ∧ (beL 8 (8 * t.length)).length = 8) := Lib.hid ⟨beL_len _ _, beL_len _ _⟩
  have hsh := size_of h
  have hst := size_of t
  generalize (blocksN h t).length = n9 at HLN HLL ⊢
  generalize blocksL h t = BL at HBL HLL ⊢
  generalize (fillT h).map sv = T1 at HF1 HBL
  generalize (fillT t).map sv = T2 at HF2 HBL HT2L HT2O
  generalize beL 8 (8 * h.length) ++ beL 8 (8 * t.length) = LA at HJ HBL
  generalize beL 8 (8 * h.length) = E1 at HH1 HJ HBE
  generalize beL 8 (8 * t.length) = E2 at HH2 HJ HBE
  obtain ⟨n1, hn1⟩ : ∃ n, h.length = n := ⟨_, rfl⟩
  obtain ⟨n2, hn2⟩ : ∃ n, t.length = n := ⟨_, rfl⟩
  rw [hn1] at hsh HH1 HF1 HLN hh
  rw [hn2] at hst HH2 HF2 HLN HT2L ht
  obtain ⟨k1, hk1⟩ : ∃ k, (n1 + 15) / 16 = k := ⟨_, rfl⟩
  obtain ⟨k2, hk2⟩ : ∃ k, (n2 + 15) / 16 = k := ⟨_, rfl⟩
  have hk1b : k1 ≤ 5 := by omega
  have hk2b : k2 ≤ 5 := by omega
  rw [hk1] at HF1 HLN
  rw [hk2] at HF2 HLN HT2L
  obtain ⟨x1, hx1⟩ : ∃ x, 8 * n1 = x := ⟨_, rfl⟩
  obtain ⟨x2, hx2⟩ : ∃ x, 8 * n2 = x := ⟨_, rfl⟩
  rw [hx1] at HH1
  rw [hx2] at HH2
  have w1a : IntKind.u64.wrap (n1 : Int) = (n1 : Int) := by rw [IntKind.wrap_u64]; omega
  have w2a : IntKind.u64.wrap (n2 : Int) = (n2 : Int) := by rw [IntKind.wrap_u64]; omega
  have w1b : IntKind.u64.wrap (8 * (n1 : Int)) = (x1 : Int) := by rw [IntKind.wrap_u64]; omega
  have w2b : IntKind.u64.wrap (8 * (n2 : Int)) = (x2 : Int) := by rw [IntKind.wrap_u64]; omega
  clear hn1 hn2 hk1 hk2 hx1 hx2 hh ht
  go_enter Try.func14, Try.ntmps14
  go_wp2_with fail
  refine (HF1.out _).mono ?_
  rintro e wa ⟨g1, c1, rfl, ho1, hba⟩
  have HO1 := Lib.hid ho1
  have zA := hba.size
  clear ho1
  go_wp2_with fail
  refine (HF2.out _).mono ?_
  rintro e wb ⟨g2, c2, rfl, ho2, hbb⟩
  have HNW : Hid (∀ j u, T2[j]? = some u → wb.cell? ((⟨g2, 0, none⟩ : Addr).add j) = some u) := Lib.hid (by
    intro j u hu
    have hj := (List.getElem?_eq_some_iff.1 hu).1
    rw [HT2L.out] at hj
    rw [Addr.add_mid, Nat.zero_add, ho2.cellAt j hj]
    exact hu)
  have HO1b := Lib.hid (own_later HO1.out hbb)
  have zB := hbb.size
  have hB := bt hba hbb
  clear ho2 hba hbb HO1
  go_upto_region 3 with (at_builtin; refine wpList_append_own _ rfl _ _ 31 rfl w.heap.size 9 i0 (.string ⟨#[]⟩) 1 16 Try.underlying31 hi0 hz0 hz1 hz2 rfl (by decide) _ _ _ rfl HO1b.out ⟨g2, 0, none⟩ k2 c2 T2 rfl HT2L.out HNW.out HT2O.out (by unfold maxLen; omega) (by omega) (by omega) ?_; intro v3 w3 hown3 hgrow3 _)
  have hB3 : Below w.heap.size w w3 := hB.grown hgrow3 (by omega) (fun k e => by cases e; exact (HO1b.out.lt _ rfl).1)
  obtain ⟨A3, c3, rfl, _⟩ := own_form hown3
  have HO3 := Lib.hid hown3
  have z3 := hB3.size
  clear hown3 hgrow3 hB HO1b HNW
  go_wp2_with fail
  refine (HH1.out _).mono ?_
  rintro e w4 ⟨rfl, hb4⟩
  have HO4 := Lib.hid (own_later HO3.out hb4)
  have hB4 := bt hB3 hb4
  clear hb4 HO3 hB3
  go_wp2_with fail
  refine (HH2.out _).mono ?_
  rintro e w5 ⟨rfl, hb5⟩
  have HO5 := Lib.hid (own_later HO4.out hb5)
  have hB5 := bt hB4 hb5
  have z5 := hB5.size
  have hjj := HJ.out
  have hlen : ¬ 9223372036854775807 < E1.length + E2.length := by rw [HBE.out.1, HBE.out.2]; omega
  have hnews := news_new w5 [sv LA] 9
  clear hb5 HO4 hB4
  go_wp2_with (at_builtin; refine wpList_append_own _ rfl _ _ 31 rfl w.heap.size 9 i0 (.string ⟨#[]⟩) 1 16 Try.underlying31 hi0 hz0 hz1 hz2 rfl (by decide) _ _ _ rfl (own_alloc HO5.out _) ⟨w5.heap.size, 0, none⟩ 1 1 [sv LA] rfl rfl hnews (by simp [Value.oneCell']) (by unfold maxLen; omega) (by omega) (by simp; omega) ?_; intro v' w6 hown' hgrow _; obtain ⟨g6, c6, rfl⟩ := ownsRow_succ hown'; have hb6 : Below w.heap.size w w6 := (ba hB5 (.cells #[sv LA] 9)).grown hgrow (by simp; omega) (fun k e => (HO5.out.lt _ e).1); have HO6 := Lib.hid hown'; clear hown' hgrow)
  go_ret
  have h6 := HO6.out
  rw [← HBL.out] at h6
  have hn : n9 = k1 + k2 + 1 := HLN.out
  subst hn
  exact ⟨_, c6, rfl, own_SR' h6 HLL.out, hb6⟩

theorem sumN_pre (H : Nat) (l : List Nat) {k : Nat} (h : k < l.length) : sumN H (l.take (k + 1)) = gm (sumN H (l.take k) ^^^ l[k]) H := by
  rw [← List.take_append_getElem h, sumN_more]
theorem sum_step (hb h t : List UInt8) {k : Nat} (hk : k < (blocksN h t).length) (hlt : ∀ x ∈ blocksN h t, x < B128) :
    mulL (xorL (nb (sumN (bn hb) ((blocksN h t).take k))) ((blocksL h t).getD k [])) hb = nb (sumN (bn hb) ((blocksN h t).take (k + 1))) := by
  have hs : sumN (bn hb) ((blocksN h t).take k) < B128 := by
    rcases Nat.eq_zero_or_pos k with rfl | hp
    · rw [List.take_zero]; exact (by decide : (0 : Nat) < B128)
    · obtain ⟨j, rfl⟩ : ∃ j, k = j + 1 := ⟨k - 1, by omega⟩
      have hx := hlt _ (List.getElem_mem (l := blocksN h t) (n := j) (by omega))
      rw [sumN_pre _ _ (by omega)]
      refine gm_lt _ (gxor_lt ?_ hx)
      clear hx
      have key : ∀ m, m ≤ (blocksN h t).length → sumN (bn hb) ((blocksN h t).take m) < B128 := by
        intro m
        induction m with
        | zero => intro _; rw [List.take_zero]; exact (by decide : (0 : Nat) < B128)
        | succ m ih => intro hm; rw [sumN_pre _ _ (by omega)]; exact gm_lt _ (gxor_lt (ih (by omega)) (hlt _ (List.getElem_mem (by omega))))
      exact key j (by omega)
  have hg : (blocksL h t).getD k [] = nb ((blocksN h t)[k]) := by simp [blocksL, List.getD, hk]
  have hx := hlt _ (List.getElem_mem (l := blocksN h t) (n := k) hk)
  rw [hg, sumN_pre _ _ hk]
  unfold mulL
  rw [bn_xorL (nb_len _), bn_nb hs, bn_nb hx]
theorem blocksN_lt (h t : List UInt8) : ∀ x ∈ blocksN h t, x < B128 := by
  intro x hx
  unfold blocksN at hx
  rw [List.mem_append, List.mem_append] at hx
  rcases hx with (hx | hx) | hx
  · obtain ⟨i, _, rfl⟩ := List.mem_map.1 hx; exact bn_lt _
  · obtain ⟨i, _, rfl⟩ := List.mem_map.1 hx; exact bn_lt _
  · rw [List.mem_singleton.1 hx]; exact ofW_lt _ _

set_option maxRecDepth 100000 in
set_option maxHeartbeats 4000000 in
theorem rsum_any (hb h t : List UInt8) (w : World) (h16 : hb.length = 16) (hh : h.length ≤ 80) (ht : t.length ≤ 80) :
    Calls Try.prog 15 #[.string ⟨hb.toArray⟩, .string ⟨h.toArray⟩, .string ⟨t.toArray⟩] w fun e w' => e = .returned (.string ⟨(sumL hb h t).toArray⟩) ∧ Below w.heap.size w w' := by
  have HRB := Lib.hid (fun W => rblocks_any h t W hh ht)
  have HST := Lib.hid (fun k (hk : k < (blocksN h t).length) => sum_step hb h t hk (blocksN_lt h t))
  have HRM := Lib.hid (fun a W (ha : a.length = 16) => rMul_any a hb W ha h16)
  have HRX := Lib.hid (fun a b W (ha : a.length = 16) (hb' : b.length = 16) => grXor_any a b 16 W ha hb' (by omega))
  have HGL : Hid (∀ k, k < (blocksN h t).length → ((blocksL h t).getD k []).length = 16) := Lib.hid (fun k hk => by
    have : (blocksL h t).getD k [] = nb ((blocksN h t)[k]) := by simp [blocksL, List.getD, hk]
    rw [this, nb_len])
  have HE : Hid (nb (sumN (bn hb) ((blocksN h t).take (blocksN h t).length)) = sumL hb h t) := Lib.hid (by rw [List.take_length]; rfl)
  have H0 : Hid (nb (sumN (bn hb) ((blocksN h t).take 0)) = gzeros) := Lib.hid (by rw [List.take_zero]; exact nb_zero)
  have HN : Hid (∀ k, (nb (sumN (bn hb) ((blocksN h t).take k))).length = 16) := Lib.hid (fun _ => nb_len _)
  have HLL : Hid ((blocksL h t).length = (blocksN h t).length) := Lib.hid (by simp [blocksL])
  have hn20 : (blocksN h t).length ≤ 20 := by rw [blocksN_len]; omega
  obtain ⟨S, hS⟩ : ∃ S : Nat → List UInt8, ∀ k, nb (sumN (bn hb) ((blocksN h t).take k)) = S k := ⟨_, fun _ => rfl⟩
  simp only [hS] at HST HE H0 HN
  generalize sumL hb h t = E at HE ⊢
  generalize blocksL h t = BL at HRB HST HGL HLL
  generalize (blocksN h t).length = n at HRB HST HGL HLL HE hn20
  have hcz : ∀ W : World, (convert 35 9 (.slice (some ⟨W.heap.size, 0, none⟩) 16 16)).run Try.prog (W.alloc (.cells #[.int .u8 0, .int .u8 0, .int .u8 0, .int .u8 0, .int .u8 0, .int .u8 0, .int .u8 0, .int .u8 0, .int .u8 0, .int .u8 0, .int .u8 0, .int .u8 0, .int .u8 0, .int .u8 0, .int .u8 0, .int .u8 0] 5)) = .ok (.string ⟨gzeros.toArray⟩) (W.alloc (.cells #[.int .u8 0, .int .u8 0, .int .u8 0, .int .u8 0, .int .u8 0, .int .u8 0, .int .u8 0, .int .u8 0, .int .u8 0, .int .u8 0, .int .u8 0, .int .u8 0, .int .u8 0, .int .u8 0, .int .u8 0, .int .u8 0] 5)) := fun W => gtext_of (n := 16) (c := 16) (Blk.new W 5 (gzeros.map uv).toArray) rfl
  rw [← H0.out] at hcz
  have hz1 := hcz w
  have hbz := ba (Below.refl w.heap.size w) (.cells #[.int .u8 0, .int .u8 0, .int .u8 0, .int .u8 0, .int .u8 0, .int .u8 0, .int .u8 0, .int .u8 0, .int .u8 0, .int .u8 0, .int .u8 0, .int .u8 0, .int .u8 0, .int .u8 0, .int .u8 0, .int .u8 0] 5)
  clear hS hcz h16 hh ht
  go_enter Try.func15, Try.ntmps15
  go_wp2_with fail
  refine (HRB.out _).mono ?_
  rintro e wa ⟨A, c, rfl, hsr, hba⟩
  have HSR := Lib.hid hsr
  have hB := bt hbz hba
  clear hsr hba hbz hz1
  go_wp2_with fail
  go_loopw [7, 16] (fun ov iv wr => ∃ k : Nat, k ≤ n ∧ iv = .int .i64 k ∧ ov = .string ⟨(S k).toArray⟩ ∧ Hid (SR wr A BL) ∧ Below w.heap.size w wr) (fun _ iv _ => n - (intOf iv).toNat)
  case atStart => exact ⟨0, Nat.zero_le _, rfl, rfl, HSR, hB⟩
  case round =>
    clear HSR hB
    obtain ⟨k, hk, rfl, rfl, HSR, hB⟩ := hrel
    by_cases hlt : k < n
    · obtain ⟨g, off, rfl, c0⟩ := HSR.out k (by rw [HLL.out]; exact hlt)
      have hki : (k : Int) < (n : Int) := by omega
      have hk0 : (0 : Int) ≤ (k : Int) := by omega
      have HM := Lib.hid (HST.out k hlt)
      have HXR := Lib.hid (fun W => HRX.out (S k) (BL.getD k []) W (HN.out k) (HGL.out k hlt))
      rw [gxorA_is (HN.out k)] at HXR
      have HMR := Lib.hid (fun W => HRM.out (xorL (S k) (BL.getD k [])) W (by rw [xorL_len]; exact HN.out k))
      rw [HM.out] at HMR
      generalize xorL (S k) (BL.getD k []) = X at HXR HMR
      generalize BL.getD k [] = y at c0 HXR
      clear HM
      go_wp2_with fail
      refine (HXR.out _).mono ?_
      rintro e v1 ⟨rfl, hb1⟩
      have HS1 := Lib.hid (HSR.out.later hb1)
      have hB1 := bt hB hb1
      clear hb1 hB HSR
      go_wp2_with fail
      refine (HMR.out _).mono ?_
      rintro e v2 ⟨rfl, hb2⟩
      have HS2 := Lib.hid (HS1.out.later hb2)
      have hB2 := bt hB1 hb2
      clear hb2 hB1 HS1
      go_wp2_with fail
      exact ⟨⟨k + 1, by omega, by go_num, rfl, HS2, hB2⟩, by simp [intOf]; omega⟩
    · obtain rfl : k = n := by omega
      rw [HE.out]
      go_wp2
      go_ret
      exact ⟨rfl, hB⟩
end Go.Proofs.Ytlfghagidajpeaa
