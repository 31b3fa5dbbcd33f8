/- GhashApart: texts that are not the same have not the same blocks; there is one more than the texts fill; by the block 0 every sum is 0. For every four texts. -/
import Derived.Test.YtlfghagidajpeaaGRBlks
import Derived.Test.YtlfghagidajpeaaGSame
import Derived.Test.YtlfghagidajpeaaGCut
import Derived.Test.YtlfghagidajpeaaBase0
namespace Go.Proofs.Ytlfghagidajpeaa
open Go.ChangeShapes Go.WideShapes Go.ChangeAt Go.RowKit Go.Joins Go.Deep

theorem fillC_inj {a b : List UInt8} (hl : a.length = b.length) (h : fillC a = fillC b) : a = b := by
  refine list_ext (n := a.length) rfl hl.symm fun j hj => ?_
  have hi : j / 16 < (a.length + 15) / 16 := by omega
  have hi2 : j / 16 < (b.length + 15) / 16 := by omega
  have h1 := fillC_at a hi
  have h2 := fillC_at b hi2
  have h3 : bn ((a.drop (16 * (j / 16))).take 16) = bn ((b.drop (16 * (j / 16))).take 16) := by
    rw [← h1, ← h2]
    simp only [h]
  have ha := nb_any ((a.drop (16 * (j / 16))).take 16) (j := j % 16) (Nat.mod_lt _ (by omega))
  have hb := nb_any ((b.drop (16 * (j / 16))).take 16) (j := j % 16) (Nat.mod_lt _ (by omega))
  rw [ub_take, if_pos (Nat.mod_lt _ (by omega)), ub_drop, show 16 * (j / 16) + j % 16 = j by omega] at ha hb
  rw [← ha, ← hb, h3]
theorem lenN_inj {a b c d : List UInt8} (ha : a.length ≤ 80) (hb : b.length ≤ 80) (hc : c.length ≤ 80) (hd : d.length ≤ 80) (h : lenN a b = lenN c d) : a.length = c.length ∧ b.length = d.length := by
  have h0 := congrArg w0 h
  have h1 := congrArg w1 h
  unfold lenN at h0 h1
  rw [w0_of _ (by show _ < 18446744073709551616; omega), w0_of _ (by show _ < 18446744073709551616; omega)] at h0
  rw [w1_of _ (by show _ < 18446744073709551616; omega), w1_of _ (by show _ < 18446744073709551616; omega)] at h1
  omega
theorem map_nb_inj : ∀ {l m : List Nat}, (∀ x ∈ l, x < B128) → (∀ x ∈ m, x < B128) → l.map nb = m.map nb → l = m
  | [], [], _, _, _ => rfl
  | [], _ :: _, _, _, h => by cases h
  | _ :: _, [], _, _, h => by cases h
  | x :: l, y :: m, hl, hm, h => by
    rw [List.map_cons, List.map_cons] at h
    injection h with h1 h2
    rw [nb_inj (hl x (List.mem_cons_self)) (hm y (List.mem_cons_self)) h1, map_nb_inj (fun z hz => hl z (List.mem_cons_of_mem _ hz)) (fun z hz => hm z (List.mem_cons_of_mem _ hz)) h2]
/-- Texts that are not the same have not the same blocks. -/
theorem blocksL_inj {a b c d : List UInt8} (ha : a.length ≤ 80) (hb : b.length ≤ 80) (hc : c.length ≤ 80) (hd : d.length ≤ 80) (h : blocksL a b = blocksL c d) : a = c ∧ b = d := by
  have h1 := map_nb_inj (blocksN_lt a b) (blocksN_lt c d) h
  unfold blocksN at h1
  have h2 := List.append_inj' h1 (by simp)
  have h3 : lenN a b = lenN c d := by have := h2.2; injection this
  obtain ⟨l1, l2⟩ := lenN_inj ha hb hc hd h3
  have h4 := List.append_inj h2.1 (by rw [fillC_len, fillC_len, l1])
  exact ⟨fillC_inj l1 h4.1, fillC_inj l2 h4.2⟩
theorem sumL_none (h t : List UInt8) : sumL gzeros h t = gzeros := by
  unfold sumL blocksN
  rw [bn_zeros, sumN_more, gm_zero, nb_zero]

set_option maxRecDepth 100000 in
set_option maxHeartbeats 8000000 in
theorem apart_any (a b c d : List UInt8) (w : World) (ha : (a.length : Int) ≤ 9223372036854775807) (hb : (b.length : Int) ≤ 9223372036854775807) (hc : (c.length : Int) ≤ 9223372036854775807) (hd : (d.length : Int) ≤ 9223372036854775807) :
    Calls Try.prog 6 #[.string ⟨a.toArray⟩, .string ⟨b.toArray⟩, .string ⟨c.toArray⟩, .string ⟨d.toArray⟩] w fun e w' => e = .returned (.bool true) ∧ Below w.heap.size w w' := by
  have HCA := Lib.hid (fun W => gcut_any a W ha)
  have HCB := Lib.hid (fun W => gcut_any b W hb)
  have HCC := Lib.hid (fun W => gcut_any c W hc)
  have HCD := Lib.hid (fun W => gcut_any d W hd)
  clear ha hb hc hd
  have lx : (a.take 80).length ≤ 80 := by rw [List.length_take]; omega
  have ly : (b.take 80).length ≤ 80 := by rw [List.length_take]; omega
  have lz : (c.take 80).length ≤ 80 := by rw [List.length_take]; omega
  have lv' : (d.take 80).length ≤ 80 := by rw [List.length_take]; omega
  generalize a.take 80 = x at HCA lx
  generalize b.take 80 = y at HCB ly
  generalize c.take 80 = z at HCC lz
  generalize d.take 80 = v at HCD lv'
  have HAL := Lib.hid alive_any
  have hx := size_of x
  have hy := size_of y
  have HK1 := Lib.hid (fun W => blks_any x y W lx ly)
  have HK2 := Lib.hid (fun W => blks_any z v W lz lv')
  have HL1 : Hid ((blocksL x y).length = (blocksN x y).length) := Lib.hid (by simp [blocksL])
  have HL2 : Hid ((blocksL z v).length = (blocksN z v).length) := Lib.hid (by simp [blocksL])
  have HN1 : Hid ((blocksN x y).length ≤ 65536) := Lib.hid (by rw [blocksN_len]; omega)
  have HN2 : Hid ((blocksN z v).length ≤ 65536) := Lib.hid (by rw [blocksN_len]; omega)
  have HSM := Lib.hid (fun W => sum_yes gzeros x y W rfl lx ly)
  rw [sumL_none] at HSM
  have HIJ : Hid (blocksL x y = blocksL z v → x = z ∧ y = v) := Lib.hid (fun h => blocksL_inj lx ly lz lv' h)
  have hnn := blocksN_len x y
  obtain ⟨k1, hk1⟩ : ∃ k, (x.length + 15) / 16 = k := ⟨_, rfl⟩
  obtain ⟨k2, hk2⟩ : ∃ k, (y.length + 15) / 16 = k := ⟨_, rfl⟩
  rw [hk1, hk2] at hnn
  have e1 : ((x.length : Int) + 15) / 16 = (k1 : Int) := by omega
  have e2 : ((y.length : Int) + 15) / 16 = (k2 : Int) := by omega
  have q1 : k1 ≤ 5 := by omega
  have q2 : k2 ≤ 5 := by omega
  have HMK := Lib.hid gmake
  have HCV := Lib.hid (fun (W : World) => gtext_of (n := 16) (c := 16) (Blk.new W 5 (gzeros.map uv).toArray) rfl)
  generalize gzeros = Z at HSM HMK HCV
  have e3 : (k1 : Int) + (k2 : Int) + 1 = (((blocksN x y).length : Nat) : Int) := by omega
  have x80 : (x.length : Int) + 15 ≤ 95 := by omega
  have y80 : (y.length : Int) + 15 ≤ 95 := by omega
  by_cases hxz : x = z
  · subst hxz
    by_cases hyv : y = v
    · subst hyv
      have hdt : decide (blocksL x y = blocksL x y) = true := by simp
      generalize blocksL x y = BL at HK1 HK2 HL1 HL2 hdt
      generalize (blocksN x y).length = n at HK1 HK2 HL1 HL2 HN1 HN2 e3
      clear HIJ lx ly lz lv' hnn hk1 hk2
      go_enter Try.func6, Try.ntmps6
      go_wp2_with fail
      refine (HCA.out _).mono ?_
      rintro e w' ⟨rfl, rfl⟩
      go_wp2_with fail
      refine (HCB.out _).mono ?_
      rintro e w' ⟨rfl, rfl⟩
      go_wp2_with fail
      refine (HCC.out _).mono ?_
      rintro e w' ⟨rfl, rfl⟩
      go_wp2_with fail
      refine (HCD.out _).mono ?_
      rintro e w' ⟨rfl, rfl⟩
      go_wp2_with fail
      refine (HK1.out _).mono ?_
      rintro e wa ⟨A1, c1, rfl, hs1, hba⟩
      have HS1 := Lib.hid hs1
      clear hs1
      go_wp2_with fail
      refine (HK2.out _).mono ?_
      rintro e wb ⟨A2, c2, rfl, hs2, hbb⟩
      have HS2 := Lib.hid hs2
      have HS1b := Lib.hid (HS1.out.later hbb)
      have hB2 := bt hba hbb
      clear hs2 HS1 hba hbb
      have hmk1 := HMK.out wb
      have hcv1 := HCV.out wb
      have hbz := ba (Below.refl wb.heap.size wb) (.cells (Z.map uv).toArray 5)
      go_wp2_with fail
      refine (HSM.out _).mono ?_
      rintro e wc ⟨rfl, hbc⟩
      have HS1c := Lib.hid ((HS1b.out.later hbz).later hbc)
      have HS2c := Lib.hid ((HS2.out.later hbz).later hbc)
      have hB3 := bt (bt hB2 hbz) hbc
      clear hmk1 hcv1 hbz hbc HS1b HS2 hB2
      go_wp2_with fail
      refine (HAL.out _).mono ?_
      rintro e wd ⟨rfl, hbd⟩
      have HS1d := Lib.hid (HS1c.out.later hbd)
      have HS2d := Lib.hid (HS2c.out.later hbd)
      have hB4 := bt hB3 hbd
      clear hbd hB3 HS1c HS2c
      go_wp2_with fail
      refine (gsame_any A1 A2 c1 c2 n n BL BL _ HS1d.out HS2d.out HL1.out HL2.out HN1.out HN2.out).mono ?_
      rintro e we ⟨rfl, hbe⟩
      have hB5 := bt hB4 hbe
      have hmk2 := HMK.out we
      have hcv2 := HCV.out we
      have hB6 := ba hB5 (.cells (Z.map uv).toArray 5)
      clear hbe hB4 hB5 HS1d HS2d
      go_wp2
      go_ret
      exact ⟨rfl, hB6⟩
    · have hdt : decide (blocksL x y = blocksL x v) = false := by simp; intro h; exact hyv (HIJ.out h).2
      have n1 : (y == v) = false := by simp; exact hyv
      generalize blocksL x y = BL at HK1 HL1 hdt
      generalize blocksL x v = BM at HK2 HL2 hdt
      generalize (blocksN x y).length = n at HK1 HL1 HN1 e3
      generalize (blocksN x v).length = m at HK2 HL2 HN2
      clear HIJ lx ly lz lv' hnn hk1 hk2 hyv
      go_enter Try.func6, Try.ntmps6
      go_wp2_with fail
      refine (HCA.out _).mono ?_
      rintro e w' ⟨rfl, rfl⟩
      go_wp2_with fail
      refine (HCB.out _).mono ?_
      rintro e w' ⟨rfl, rfl⟩
      go_wp2_with fail
      refine (HCC.out _).mono ?_
      rintro e w' ⟨rfl, rfl⟩
      go_wp2_with fail
      refine (HCD.out _).mono ?_
      rintro e w' ⟨rfl, rfl⟩
      go_wp2_with fail
      refine (HK1.out _).mono ?_
      rintro e wa ⟨A1, c1, rfl, hs1, hba⟩
      have HS1 := Lib.hid hs1
      clear hs1
      go_wp2_with fail
      refine (HK2.out _).mono ?_
      rintro e wb ⟨A2, c2, rfl, hs2, hbb⟩
      have HS2 := Lib.hid hs2
      have HS1b := Lib.hid (HS1.out.later hbb)
      have hB2 := bt hba hbb
      clear hs2 HS1 hba hbb
      have hmk1 := HMK.out wb
      have hcv1 := HCV.out wb
      have hbz := ba (Below.refl wb.heap.size wb) (.cells (Z.map uv).toArray 5)
      go_wp2_with fail
      refine (HSM.out _).mono ?_
      rintro e wc ⟨rfl, hbc⟩
      have HS1c := Lib.hid ((HS1b.out.later hbz).later hbc)
      have HS2c := Lib.hid ((HS2.out.later hbz).later hbc)
      have hB3 := bt (bt hB2 hbz) hbc
      clear hmk1 hcv1 hbz hbc HS1b HS2 hB2
      go_wp2_with fail
      refine (HAL.out _).mono ?_
      rintro e wd ⟨rfl, hbd⟩
      have HS1d := Lib.hid (HS1c.out.later hbd)
      have HS2d := Lib.hid (HS2c.out.later hbd)
      have hB4 := bt hB3 hbd
      clear hbd hB3 HS1c HS2c
      go_wp2_with fail
      refine (gsame_any A1 A2 c1 c2 n m BL BM _ HS1d.out HS2d.out HL1.out HL2.out HN1.out HN2.out).mono ?_
      rintro e we ⟨rfl, hbe⟩
      have hB5 := bt hB4 hbe
      have hmk2 := HMK.out we
      have hcv2 := HCV.out we
      have hB6 := ba hB5 (.cells (Z.map uv).toArray 5)
      clear hbe hB4 hB5 HS1d HS2d
      go_wp2
      go_ret
      exact ⟨rfl, hB6⟩
  · have hdt : decide (blocksL x y = blocksL z v) = false := by simp; intro h; exact hxz (HIJ.out h).1
    have n1 : (x == z) = false := by simp; exact hxz
    generalize blocksL x y = BL at HK1 HL1 hdt
    generalize blocksL z v = BM at HK2 HL2 hdt
    generalize (blocksN x y).length = n at HK1 HL1 HN1 e3
    generalize (blocksN z v).length = m at HK2 HL2 HN2
    clear HIJ lx ly lz lv' hnn hk1 hk2 hxz
    go_enter Try.func6, Try.ntmps6
    go_wp2_with fail
    refine (HCA.out _).mono ?_
    rintro e w' ⟨rfl, rfl⟩
    go_wp2_with fail
    refine (HCB.out _).mono ?_
    rintro e w' ⟨rfl, rfl⟩
    go_wp2_with fail
    refine (HCC.out _).mono ?_
    rintro e w' ⟨rfl, rfl⟩
    go_wp2_with fail
    refine (HCD.out _).mono ?_
    rintro e w' ⟨rfl, rfl⟩
    go_wp2_with fail
    refine (HK1.out _).mono ?_
    rintro e wa ⟨A1, c1, rfl, hs1, hba⟩
    have HS1 := Lib.hid hs1
    clear hs1
    go_wp2_with fail
    refine (HK2.out _).mono ?_
    rintro e wb ⟨A2, c2, rfl, hs2, hbb⟩
    have HS2 := Lib.hid hs2
    have HS1b := Lib.hid (HS1.out.later hbb)
    have hB2 := bt hba hbb
    clear hs2 HS1 hba hbb
    have hmk1 := HMK.out wb
    have hcv1 := HCV.out wb
    have hbz := ba (Below.refl wb.heap.size wb) (.cells (Z.map uv).toArray 5)
    go_wp2_with fail
    refine (HSM.out _).mono ?_
    rintro e wc ⟨rfl, hbc⟩
    have HS1c := Lib.hid ((HS1b.out.later hbz).later hbc)
    have HS2c := Lib.hid ((HS2.out.later hbz).later hbc)
    have hB3 := bt (bt hB2 hbz) hbc
    clear hmk1 hcv1 hbz hbc HS1b HS2 hB2
    go_wp2_with fail
    refine (HAL.out _).mono ?_
    rintro e wd ⟨rfl, hbd⟩
    have HS1d := Lib.hid (HS1c.out.later hbd)
    have HS2d := Lib.hid (HS2c.out.later hbd)
    have hB4 := bt hB3 hbd
    clear hbd hB3 HS1c HS2c
    go_wp2_with fail
    refine (gsame_any A1 A2 c1 c2 n m BL BM _ HS1d.out HS2d.out HL1.out HL2.out HN1.out HN2.out).mono ?_
    rintro e we ⟨rfl, hbe⟩
    have hB5 := bt hB4 hbe
    have hmk2 := HMK.out we
    have hcv2 := HCV.out we
    have hB6 := ba hB5 (.cells (Z.map uv).toArray 5)
    clear hbe hB4 hB5 HS1d HS2d
    go_wp2
    go_ret
    exact ⟨rfl, hB6⟩

set_option maxHeartbeats 1000000 in
set_option maxRecDepth 100000 in
theorem apart_lifted (os : Os) (started : os.Started) (H : Type) (enc : TypeId × Value → H) :
    ReturnsInHanded {} Try.checked os 6 .any (Rows.ghashApartSpec.pre6 enc Try.prog Try.f6 Rows.ghashApartRow.domain false) (Rows.ghashApartSpec.post enc Try.prog Try.f6 false true false false) := by
  refine returnsInHanded_of_change (C := Try.checked) Try.own started (by kernel_rfl) Try.func6
    (ChangeSpec.witness6 (enc := enc) (C := Try.checked) false ⟨#[], #[.string ⟨#[]⟩, .string ⟨#[]⟩, .string ⟨#[]⟩, .string ⟨#[]⟩], []⟩ 8 (by kernel_rfl) (by kernel_rfl) (by kernel_rfl) (by kernel_rfl)) ?_
  intro W base args ds gs before hval0 hW _ _
  have hval : ∀ (j : Nat) t v, Try.f6.params[j]? = some t → args[j]? = some v → Value.okWide Try.prog W .any base t v := hval0
  have hW' := hW
  obtain ⟨p, q, hA0, hV, rfl, _, _⟩ := hW
  have hA : DataW.TrodAll enc Try.prog W 0 (fun _ => true) true Try.f6.params.toList args.toList ds p := hA0
  rw [Try.params6] at hA hval
  obtain ⟨rfl, rfl⟩ := trodVars_none hV
  have hAk := hA
  obtain ⟨v0, v1, v2, v3, d0, d1, d2, d3, p0, p1, p2, p3, rfl, rfl, hp, h0, h1, h2, h3⟩ := trodAll_four hA
  have hlt : ∀ x ∈ p, x.block < W.heap.size := fun x hx => hW'.lt x (by simpa using hx)
  obtain ⟨s0, rfl, rfl, _, ws0⟩ := ChangeMaps.open_string Try.underlying9 (hval 0 9 v0 rfl rfl) h0
  unfold maxLen at ws0
  obtain ⟨l0, rfl, hz0⟩ := str_list s0
  have hl0 : (l0.length : Int) ≤ 9223372036854775807 := by omega
  obtain ⟨s1, rfl, rfl, _, ws1⟩ := ChangeMaps.open_string Try.underlying9 (hval 1 9 v1 rfl rfl) h1
  unfold maxLen at ws1
  obtain ⟨l1, rfl, hz1⟩ := str_list s1
  have hl1 : (l1.length : Int) ≤ 9223372036854775807 := by omega
  obtain ⟨s2, rfl, rfl, _, ws2⟩ := ChangeMaps.open_string Try.underlying9 (hval 2 9 v2 rfl rfl) h2
  unfold maxLen at ws2
  obtain ⟨l2, rfl, hz2⟩ := str_list s2
  have hl2 : (l2.length : Int) ≤ 9223372036854775807 := by omega
  obtain ⟨s3, rfl, rfl, _, ws3⟩ := ChangeMaps.open_string Try.underlying9 (hval 3 9 v3 rfl rfl) h3
  unfold maxLen at ws3
  obtain ⟨l3, rfl, hz3⟩ := str_list s3
  have hl3 : (l3.length : Int) ≤ 9223372036854775807 := by omega
  clear hA0 hval0
  refine (apart_any l0 l1 l2 l3 W hl0 hl1 hl2 hl3).mono fun e W' ⟨he, hn⟩ => ?_
  subst he
  refine ⟨_, rfl, ?_⟩
  refine ⟨_, _, _, [], p, [], hW', ?_, trodAll_below_ Try.laidOut hn _ hAk (all_readable (by kernel_rfl)) hlt, rfl, hn.frame _, fun h => by cases h⟩
  exact trodAll_mk1 (shut_bool Try.underlying4 true)

/-- GhashApart, for every input. -/
theorem apart_holds : Rows.GhashApartSaid :=
  OpenClaim.holds_of_wide 6 Try.f6 rfl rfl rfl rfl rfl rfl rfl ⟨rfl, rfl, rfl, rfl, rfl⟩ rfl rfl rfl rfl rfl (by kernel_rfl) Try.func6 (by kernel_rfl)
    (of_decide_eq_true (by kernel_rfl)) (by unfold Func.isWrapper; rw [if_neg (of_decide_eq_false (by kernel_rfl))]; exact ⟨rfl, rfl⟩)
    (fun os started H enc _ => apart_lifted os started H enc)
#print axioms apart_holds
end Go.Proofs.Ytlfghagidajpeaa
