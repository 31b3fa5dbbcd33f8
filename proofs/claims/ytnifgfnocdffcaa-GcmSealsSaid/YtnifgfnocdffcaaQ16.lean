/- Texts of this seat, one behind the other: ARWords, AKeyL, ARKeys. -/
import Derived.Test.YtnifgfnocdffcaaQ13
import Derived.Test.YtnifgfnocdffcaaQ15
/- The contract of the reference's words. -/
namespace Go.Proofs.Ytnifgfnocdffcaa
open Go.RowKit

set_option maxRecDepth 100000 in
set_option maxHeartbeats 8000000 in
theorem rWords_any (key : List UInt8) (own many : Nat) (w : World) (hk : key.length = 16 ∨ key.length = 32) (ho : key.length / 4 = own) (hm : 4 * (own + 7) = many) :
    Calls Try.prog 61 #[.string ⟨key.toArray⟩] w fun e w' => ∃ g c, e = .returned (.slice (some ⟨g, 0, none⟩) many c) ∧ w'.ownsRow w.heap.size 9 1 (.slice (some ⟨g, 0, none⟩) many c) many ((wordsL key).map sv) ∧ Below w.heap.size w w' := by
  obtain ⟨i0, hi, hz0, hz1, hz2⟩ := info_parts infoS
  have HTK := Lib.hid (take_getD (wordsL key))
  have HLL : Hid ((wordsL key).length = many) := Lib.hid (by rw [wordsL_len, ho, hm])
  have HAT := Lib.hid (wordsL_at key)
  have HKW := Lib.hid (key_word key hk)
  have HNW := Lib.hid (keysF_word key hk)
  have HEX := Lib.hid (extract_list key)
  have hsz := size_of key
  have HO : Hid ((own = 4 ∨ own = 8) ∧ own ≤ many ∧ many ≤ 60 ∧ 4 * (own + 7) = many) := Lib.hid (by omega)
  have HLK : Hid (key.length = 4 * own) := Lib.hid (by omega)
  rw [ho, hm] at HAT
  rw [ho, hm] at HNW
  rw [ho] at HKW
  obtain ⟨n, hn⟩ : ∃ n, key.length = n := ⟨_, rfl⟩
  rw [hn] at hsz ho HLK
  have hn4 : (n : Int) / 4 = (own : Int) := by omega
  have hn32 : (n : Int) ≤ 32 := by omega
  have ho7 : (own : Int) ≤ 8 := by have := HO.out; omega
  have hmo : 4 * ((own : Int) + 7) = (many : Int) := by omega
  obtain ⟨F, hF⟩ : ∃ F, keysF key = F := ⟨_, rfl⟩
  rw [hF] at HAT HKW HNW
  obtain ⟨L, hL⟩ : ∃ L, wordsL key = L := ⟨_, rfl⟩
  rw [hL] at HTK HLL HAT ⊢
  have HO0 : Hid ((w.alloc (.cells #[] 9)).ownsRow w.heap.size 9 1 (.slice (some ⟨w.heap.size, 0, none⟩) 0 0) 0 ((L.take 0).map sv)) := Lib.hid (own_nil (Blk.new w _ _) (Nat.le_refl _))
  have hb0 := ba (Below.refl w.heap.size w) (.cells #[] 9)
  clear hk ho hm hn hF hL
  go_enter Try.func61, Try.ntmps61
  go_wp2_with fail
  go_loopw [4, 5] (fun ov iv wr => ∃ k g d : Nat, k ≤ own ∧ iv = .int .i64 k ∧ ov = .slice (some ⟨g, 0, none⟩) k d ∧ Hid (wr.ownsRow w.heap.size 9 1 (.slice (some ⟨g, 0, none⟩) k d) k ((L.take k).map sv)) ∧ Below w.heap.size w wr) (fun _ iv _ => own - (intOf iv).toNat)
  case atStart => exact ⟨0, _, _, Nat.zero_le _, rfl, rfl, HO0, hb0⟩
  case round =>
    clear HO0 hb0
    obtain ⟨k, g, d, hk, rfl, rfl, HO1, hb⟩ := hrel
    by_cases hlt : k < own
    · have hki : (k : Int) < (own : Int) := by omega
      have HT := Lib.hid (HTK.out k (by rw [HLL.out]; have := HO.out; omega))
      rw [HAT.out k (by have := HO.out; omega)] at HT
      have hex := HEX.out (4 * k) (4 * k + 4)
      rw [HKW.out k hlt] at hex
      generalize colG F k = T at hex HT
      obtain ⟨s, hs⟩ : ∃ s, 4 * k = s := ⟨_, rfl⟩
      have e1 : 4 * (k : Int) = (s : Int) := by omega
      obtain ⟨m, hm⟩ : ∃ m, s + 4 = m := ⟨_, rfl⟩
      have e2 : (s : Int) + 4 = (m : Int) := by omega
      have e3 : (m : Int) ≤ (n : Int) := by have := HLK.out; omega
      have e4 : (s : Int) ≤ (m : Int) := by omega
      rw [hs, hm] at hex
      have hz := hb.size
      have hnews := news_new wr [sv T] 9
      clear hs hm
      go_upto_region 5 with (at_builtin; refine wpList_append_own _ rfl _ _ 72 rfl w.heap.size 9 i0 (.string ⟨#[]⟩) 1 16 Try.underlying72 hi hz0 hz1 hz2 rfl (by decide) _ _ _ rfl (own_alloc HO1.out _) ⟨wr.heap.size, 0, none⟩ 1 1 [sv T] rfl rfl hnews (by simp [Value.oneCell']) (by have := HO.out; unfold maxLen; omega) (by have := HO.out; omega) (by simp; omega) ?_; intro v' w6 hown' hgrow _; obtain ⟨g1, c1, rfl⟩ := ownsRow_succ hown'; have HO6 := Lib.hid hown'; have hb6 : Below w.heap.size w w6 := (hb.alloc hb.size _).grown hgrow (by simp; omega) (fun r e => by cases e; exact (HO1.out.lt _ rfl).1); clear hown' hnews hgrow)
      go_wp2_with fail
      exact ⟨⟨k + 1, g1, c1, by omega, by go_num, rfl, Lib.hid (by rw [HT.out, List.map_append]; exact HO6.out), hb6⟩, by simp [intOf]; omega⟩
    · obtain rfl : k = own := by omega
      go_wp2_with fail
      go_loopw [4, 6] (fun ov iv wx => ∃ i g d : Nat, k ≤ i ∧ i ≤ many ∧ iv = .int .i64 i ∧ ov = .slice (some ⟨g, 0, none⟩) i d ∧ Hid (wx.ownsRow w.heap.size 9 1 (.slice (some ⟨g, 0, none⟩) i d) i ((L.take i).map sv)) ∧ Below w.heap.size w wx) (fun _ iv _ => many - (intOf iv).toNat)
      case atStart => exact ⟨k, _, _, Nat.le_refl _, HO.out.2.1, rfl, rfl, HO1, hb⟩
      case round =>
        clear HO1 hb hlt hk
        obtain ⟨i, g, d, hki, him, rfl, rfl, HO1, hb⟩ := hrel
        by_cases hlt : i < many
        · have hii : (i : Int) < (many : Int) := by omega
          have hm60 : (many : Int) ≤ 60 := by have := HO.out; omega
          have hk4 : (4 : Int) ≤ (k : Int) := by have := HO.out; omega
          have hik : (k : Int) ≤ (i : Int) := by omega
          have HT := Lib.hid (HTK.out i (by rw [HLL.out]; exact hlt))
          rw [HAT.out i hlt] at HT
          have hnw := HNW.out i hki hlt
          unfold nextW at hnw
          obtain ⟨j, hj⟩ : ∃ j : Nat, i - k = j := ⟨_, rfl⟩
          obtain ⟨m, hm⟩ : ∃ m : Nat, i - 1 = m := ⟨_, rfl⟩
          have e1 : (i : Int) - 1 = (m : Int) := by omega
          have e2 : (i : Int) - (k : Int) = (j : Int) := by omega
          have j1 : (j : Int) < (i : Int) := by omega
          have m1 : (m : Int) < (i : Int) := by omega
          have HCM := Lib.hid (fun (W : World) (hW : W.ownsRow w.heap.size 9 1 (.slice (some ⟨g, 0, none⟩) i d) i ((L.take i).map sv)) => own_at hW (by rw [HLL.out]; omega) (j := m) (by omega) (HAT.out m (by omega)))
          have HCJ := Lib.hid (fun (W : World) (hW : W.ownsRow w.heap.size 9 1 (.slice (some ⟨g, 0, none⟩) i d) i ((L.take i).map sv)) => own_at hW (by rw [HLL.out]; omega) (j := j) (by omega) (HAT.out j (by omega)))
          rw [hj, hm] at hnw
          have HXL : Hid ((colG F j).length = 4) := Lib.hid (tab_len _ _)
          generalize colG F j = X at hnw HCJ HXL
          obtain ⟨y0, y1, y2, y3, hY⟩ := four_list (L := colG F m) (tab_len _ _)
          rw [hY] at hnw HCM
          have HNI : Hid (colG F i = xorW X (scrW [y0, y1, y2, y3] i k)) := Lib.hid hnw
          generalize colG F i = V at HNI HT
          have HSL := Lib.hid (scrW_len y0 y1 y2 y3 i k)
          obtain ⟨T, hT⟩ : ∃ T, scrW [y0, y1, y2, y3] i k = T := ⟨_, rfl⟩
          rw [hT] at HNI HSL
          have HTS := Lib.hid hT
          clear hT
          clear hnw hj hm hY
          have hcm := HCM.out _ HO1.out
          have hon : ¬ k = 0 := by omega
          go_upto_if 43 with fail
          clear hcm
          go_cut [7] from 28 to 82 (fun s7 wx => s7 = .string ⟨T.toArray⟩ ∧ Below wr.heap.size wr wx)
          case first =>
            by_cases hz : i % k = 0
            · have z0 : ((i : Int) % (k : Int) == 0) = true := by simp only [beq_iff_eq]; omega
              have hTQ : T = [box8 y1 ^^^ pw8 (i / k - 1), box8 y2, box8 y3, box8 y0] := by rw [← HTS.out, scr_first _ _ _ _ _ _ hz]
              have hsy : (⟨[y0, y1, y2, y3].toArray⟩ : ByteArray).size = 4 := rfl
              have hx1 : (⟨[y0, y1, y2, y3].toArray⟩ : ByteArray).extract 1 4 = ⟨[y1, y2, y3].toArray⟩ := extract_list _ _ _
              have hx2 : (⟨[y0, y1, y2, y3].toArray⟩ : ByteArray).extract 0 1 = ⟨[y0].toArray⟩ := extract_list _ _ _
              have had : ∀ W : World, (Op.stringOp .add ⟨[y1, y2, y3].toArray⟩ ⟨[y0].toArray⟩).run Try.prog W = .ok (.string ⟨[y1, y2, y3, y0].toArray⟩) W := fun W => run_string_add_lists (P := Try.prog) W [y1, y2, y3] [y0] (by simp) (by simp)
              have HBX : Hid (∀ W : World, Calls Try.prog 45 #[.string ⟨[y1, y2, y3, y0].toArray⟩] W fun e w' => e = .returned (.string ⟨[box8 y1, box8 y2, box8 y3, box8 y0].toArray⟩) ∧ Below W.heap.size W w') := Lib.hid (fun W => rBoxed_any [y1, y2, y3, y0] W (by simp))
              obtain ⟨q, hq⟩ : ∃ q : Nat, i / k = q := ⟨_, rfl⟩
              have hq1 : 1 ≤ q := by rw [← hq]; exact (Nat.one_le_div_iff (by omega)).2 hki
              have hq60 : q ≤ 60 := by rw [← hq]; exact Nat.le_trans (Nat.div_le_self _ _) (by omega)
              obtain ⟨p, hp⟩ : ∃ p : Nat, q - 1 = p := ⟨_, rfl⟩
              rw [hq, hp] at hTQ
              have HQ : Hid ((i : Int) / (k : Int) = (q : Int) ∧ (q : Int) - 1 = (p : Int) ∧ IntKind.i64.wrap (q : Int) = (q : Int) ∧ IntKind.i64.wrap (p : Int) = (p : Int)) := Lib.hid ⟨by rw [← hq]; simp, by omega, by rw [IntKind.wrap_i64]; omega, by rw [IntKind.wrap_i64]; omega⟩
              have HPW := Lib.hid (fun W => rpow2_any p W (by omega))
              have hxr := xor_byte (box8 y1) (pw8 p)
              obtain ⟨x, hx⟩ : ∃ x, box8 y1 ^^^ pw8 p = x := ⟨_, rfl⟩
              rw [hx] at hxr hTQ
              have HXR := Lib.hid hxr
              have HTQ := Lib.hid hTQ
              clear hq hp hx hxr hTQ
              go_wp2_with fail
              refine wp_region_held_drew (S := fun _ => True) (by kernel_rfl) trivial (fun hHeld => ?_)
              refine wpAnyH_take (i := 0) (oi := ⟨some 44, _, _, _, _, _⟩) (v := ?_) rfl (by kernel_rfl) (by kernel_rfl) (by kernel_rfl) (fun _ _ _ h => h) (Or.inl ⟨by rfl, ?_⟩) (by assumption) ?_
              rotate_left
              · (intro w9 hSw; (try dsimp only at hSw); go_simp; try with_reducible rfl)
              try simp only [Act.put, List.setIfInBounds_toArray, List.set_cons_zero, List.set_cons_succ]
              refine wpAnyH_take (i := 1) (oi := ⟨some 45, _, _, _, _, _⟩) (v := .string ⟨[y1, y2, y3].toArray⟩) rfl (by kernel_rfl) (by kernel_rfl) (by kernel_rfl) (fun _ _ _ h => h) (Or.inl ⟨by rfl, ?_⟩) (by assumption) ?_
              · (intro w9 hSw; (try dsimp only at hSw); go_simp)
              try simp only [Act.put, List.setIfInBounds_toArray, List.set_cons_zero, List.set_cons_succ]
              refine wpAnyH_take (i := 2) (oi := ⟨some 46, _, _, _, _, _⟩) (v := ?_) rfl (by kernel_rfl) (by kernel_rfl) (by kernel_rfl) (fun _ _ _ h => h) (Or.inl ⟨by rfl, ?_⟩) (by assumption) ?_
              rotate_left
              · (intro w9 hSw; (try dsimp only at hSw); go_simp; try with_reducible rfl)
              try simp only [Act.put, List.setIfInBounds_toArray, List.set_cons_zero, List.set_cons_succ]
              refine wpAnyH_take (i := 3) (oi := ⟨some 47, _, _, _, _, _⟩) (v := .string ⟨[y0].toArray⟩) rfl (by kernel_rfl) (by kernel_rfl) (by kernel_rfl) (fun _ _ _ h => h) (Or.inl ⟨by rfl, ?_⟩) (by assumption) ?_
              · (intro w9 hSw; (try dsimp only at hSw); go_simp)
              try simp only [Act.put, List.setIfInBounds_toArray, List.set_cons_zero, List.set_cons_succ]
              refine wpAnyH_take (i := 4) (oi := ⟨some 48, _, _, _, _, _⟩) (v := .string ⟨[y1, y2, y3, y0].toArray⟩) rfl (by kernel_rfl) (by kernel_rfl) (by kernel_rfl) (fun _ _ _ h => h) (Or.inl ⟨by rfl, ?_⟩) (by assumption) ?_
              · (intro w9 hSw; (try dsimp only at hSw); go_simp)
              try simp only [Act.put, List.setIfInBounds_toArray, List.set_cons_zero, List.set_cons_succ]
              refine wpAnyH_ready (rs := [5]) (by kernel_rfl) (by simp) ?_
              refine AllReadyH.cons (o := ⟨some 49, _, _, _, _, _⟩) rfl (fun K9 hK9 => ?_) AllReadyH.nil
              go_simp
              go_at_call 45
              refine (HBX.out _).mono ?_
              rintro e w1 ⟨rfl, hb1⟩
              go_wp2_with fail
              refine hK9.out _ _ ?_ (fun hHeld => ?_)
              · trivial
              clear hK9 K9
              try simp only [Act.put, List.setIfInBounds_toArray, List.set_cons_zero, List.set_cons_succ]
              refine wpAnyH_take (i := 6) (oi := ⟨some 7, _, _, _, _, _⟩) (v := ?_) rfl (by kernel_rfl) (by kernel_rfl) (by kernel_rfl) (fun _ _ _ h => h) (Or.inl ⟨by rfl, ?_⟩) (by assumption) ?_
              rotate_left
              · (intro w9 hSw; (try dsimp only at hSw); go_simp; try with_reducible rfl)
              try simp only [Act.put, List.setIfInBounds_toArray, List.set_cons_zero, List.set_cons_succ]
              refine wpAnyH_done (by kernel_rfl) ?_ _
              have hb1' : Below wr.heap.size wr w1 := bt ((Below.refl wr.heap.size wr).drew) hb1
              clear hb1 hHeld had hx1 hx2 hsy HBX
              have hsy : (⟨[box8 y1, box8 y2, box8 y3, box8 y0].toArray⟩ : ByteArray).size = 4 := rfl
              have hx1 : (⟨[box8 y1, box8 y2, box8 y3, box8 y0].toArray⟩ : ByteArray).extract 1 4 = ⟨[box8 y2, box8 y3, box8 y0].toArray⟩ := extract_list _ _ _
              have had : ∀ W : World, (Op.stringOp .add ⟨[x].toArray⟩ ⟨[box8 y2, box8 y3, box8 y0].toArray⟩).run Try.prog W = .ok (.string ⟨[x, box8 y2, box8 y3, box8 y0].toArray⟩) W := fun W => run_string_add_lists (P := Try.prog) W [x] [box8 y2, box8 y3, box8 y0] (by simp) (by simp)
              have hix := index_of [box8 y1, box8 y2, box8 y3, box8 y0] 0 0 rfl (by simp)
              rw [show ub [box8 y1, box8 y2, box8 y3, box8 y0] 0 = box8 y1 from rfl] at hix
              go_wp2_with fail
              refine wp_region_held_drew (S := fun _ => True) (by kernel_rfl) trivial (fun hHeld => ?_)
              refine wpAnyH_take (i := 0) (oi := ⟨some 50, _, _, _, _, _⟩) (v := ?_) rfl (by kernel_rfl) (by kernel_rfl) (by kernel_rfl) (fun _ _ _ h => h) (Or.inl ⟨by rfl, ?_⟩) (by assumption) ?_
              rotate_left
              · (intro w9 hSw; (try dsimp only at hSw); go_simp; try with_reducible rfl)
              try simp only [Act.put, List.setIfInBounds_toArray, List.set_cons_zero, List.set_cons_succ]
              refine wpAnyH_take (i := 1) (oi := ⟨some 51, _, _, _, _, _⟩) (v := uv (box8 y1)) rfl (by kernel_rfl) (by kernel_rfl) (by kernel_rfl) (fun _ _ _ h => h) (Or.inl ⟨by rfl, ?_⟩) (by assumption) ?_
              · (intro w9 hSw; (try dsimp only at hSw); go_simp)
              try simp only [Act.put, List.setIfInBounds_toArray, List.set_cons_zero, List.set_cons_succ]
              refine wpAnyH_take (i := 2) (oi := ⟨some 52, _, _, _, _, _⟩) (v := ?_) rfl (by kernel_rfl) (by kernel_rfl) (by kernel_rfl) (fun _ _ _ h => h) (Or.inl ⟨by rfl, ?_⟩) (by assumption) ?_
              rotate_left
              · (intro w9 hSw; (try dsimp only at hSw); go_simp; try with_reducible rfl)
              try simp only [Act.put, List.setIfInBounds_toArray, List.set_cons_zero, List.set_cons_succ]
              refine wpAnyH_take (i := 3) (oi := ⟨some 53, _, _, _, _, _⟩) (v := ?_) rfl (by kernel_rfl) (by kernel_rfl) (by kernel_rfl) (fun _ _ _ h => h) (Or.inl ⟨by rfl, ?_⟩) (by assumption) ?_
              rotate_left
              · (intro w9 hSw; (try dsimp only at hSw); go_simp; try with_reducible rfl)
              try simp only [Act.put, List.setIfInBounds_toArray, List.set_cons_zero, List.set_cons_succ]
              refine wpAnyH_take (i := 4) (oi := ⟨some 54, _, _, _, _, _⟩) (v := .int .i64 (q : Int)) rfl (by kernel_rfl) (by kernel_rfl) (by kernel_rfl) (fun _ _ _ h => h) (Or.inl ⟨by rfl, ?_⟩) (by assumption) ?_
              · (intro w9 hSw; (try dsimp only at hSw); go_simp; (try rw [HQ.out.1]); rw [HQ.out.2.2.1])
              try simp only [Act.put, List.setIfInBounds_toArray, List.set_cons_zero, List.set_cons_succ]
              refine wpAnyH_take (i := 5) (oi := ⟨some 55, _, _, _, _, _⟩) (v := .int .i64 (p : Int)) rfl (by kernel_rfl) (by kernel_rfl) (by kernel_rfl) (fun _ _ _ h => h) (Or.inl ⟨by rfl, ?_⟩) (by assumption) ?_
              · (intro w9 hSw; (try dsimp only at hSw); go_simp; (try rw [HQ.out.2.1]); rw [HQ.out.2.2.2])
              try simp only [Act.put, List.setIfInBounds_toArray, List.set_cons_zero, List.set_cons_succ]
              refine wpAnyH_take (i := 10) (oi := ⟨some 60, _, _, _, _, _⟩) (v := ?_) rfl (by kernel_rfl) (by kernel_rfl) (by kernel_rfl) (fun _ _ _ h => h) (Or.inl ⟨by rfl, ?_⟩) (by assumption) ?_
              rotate_left
              · (intro w9 hSw; (try dsimp only at hSw); go_simp; try with_reducible rfl)
              try simp only [Act.put, List.setIfInBounds_toArray, List.set_cons_zero, List.set_cons_succ]
              refine wpAnyH_take (i := 11) (oi := ⟨some 61, _, _, _, _, _⟩) (v := .string ⟨[box8 y2, box8 y3, box8 y0].toArray⟩) rfl (by kernel_rfl) (by kernel_rfl) (by kernel_rfl) (fun _ _ _ h => h) (Or.inl ⟨by rfl, ?_⟩) (by assumption) ?_
              · (intro w9 hSw; (try dsimp only at hSw); go_simp)
              try simp only [Act.put, List.setIfInBounds_toArray, List.set_cons_zero, List.set_cons_succ]
              refine wpAnyH_ready (rs := [6]) (by kernel_rfl) (by simp) ?_
              refine AllReadyH.cons (o := ⟨some 56, _, _, _, _, _⟩) rfl (fun K9 hK9 => ?_) AllReadyH.nil
              go_simp
              go_at_call 85
              refine (HPW.out _).mono ?_
              rintro e x6 ⟨rfl, rfl⟩
              go_wp2_with fail
              refine hK9.out _ _ ?_ (fun hHeld => ?_)
              · trivial
              clear hK9 K9
              try simp only [Act.put, List.setIfInBounds_toArray, List.set_cons_zero, List.set_cons_succ]
              refine wpAnyH_take (i := 7) (oi := ⟨some 57, _, _, _, _, _⟩) (v := uv x) rfl (by kernel_rfl) (by kernel_rfl) (by kernel_rfl) (fun _ _ _ h => h) (Or.inl ⟨by rfl, ?_⟩) (by assumption) ?_
              · (intro w9 hSw; have hxr := HXR.out; (try dsimp only at hSw); go_simp)
              try simp only [Act.put, List.setIfInBounds_toArray, List.set_cons_zero, List.set_cons_succ]
              refine wpAnyH_ready (rs := [8]) (by kernel_rfl) (by simp) ?_
              refine AllReadyH.cons (o := ⟨some 58, _, _, _, _, _⟩) rfl (fun K9 hK9 => ?_) AllReadyH.nil
              go_simp
              refine hK9.out _ _ ?_ (fun hHeld => ?_)
              · trivial
              clear hK9 K9
              try simp only [Act.put, List.setIfInBounds_toArray, List.set_cons_zero, List.set_cons_succ]
              refine wpAnyH_ready (rs := [9]) (by kernel_rfl) (by simp) ?_
              refine AllReadyH.cons (o := ⟨some 59, _, _, _, _, _⟩) rfl (fun K9 hK9 => ?_) AllReadyH.nil
              go_simp
              go_at_call 62
              refine (text_any w1.heap.size w1.heap.size 1 1 [x] _ ⟨rfl, .inr ⟨_, 1, #[uv x], rfl, Nat.le_refl _, heap_alloc_new w1.drew _, Nat.le_refl _, by unfold maxLen; omega, rfl, rfl⟩⟩ rfl).mono ?_
              rintro e x7 ⟨rfl, rfl⟩
              go_wp2_with fail
              refine hK9.out _ _ ?_ (fun hHeld => ?_)
              · trivial
              clear hK9 K9
              try simp only [Act.put, List.setIfInBounds_toArray, List.set_cons_zero, List.set_cons_succ]
              refine wpAnyH_take (i := 12) (oi := ⟨some 62, _, _, _, _, _⟩) (v := .string ⟨[x, box8 y2, box8 y3, box8 y0].toArray⟩) rfl (by kernel_rfl) (by kernel_rfl) (by kernel_rfl) (fun _ _ _ h => h) (Or.inl ⟨by rfl, ?_⟩) (by assumption) ?_
              · (intro w9 hSw; (try dsimp only at hSw); go_simp)
              try simp only [Act.put, List.setIfInBounds_toArray, List.set_cons_zero, List.set_cons_succ]
              refine wpAnyH_take (i := 13) (oi := ⟨some 7, _, _, _, _, _⟩) (v := ?_) rfl (by kernel_rfl) (by kernel_rfl) (by kernel_rfl) (fun _ _ _ h => h) (Or.inl ⟨by rfl, ?_⟩) (by assumption) ?_
              rotate_left
              · (intro w9 hSw; (try dsimp only at hSw); go_simp; try with_reducible rfl)
              try simp only [Act.put, List.setIfInBounds_toArray, List.set_cons_zero, List.set_cons_succ]
              refine wpAnyH_done (by kernel_rfl) ?_ _
              go_wp2_with fail
              go_meet
              exact ⟨by rw [HTQ.out], ba hb1'.drew _⟩
            · have z0 : ((i : Int) % (k : Int) == 0) = false := by simp only [beq_eq_false_iff_ne]; omega
              by_cases h4 : k = 8 ∧ i % k = 4
              · have HTQ : Hid (T = [box8 y0, box8 y1, box8 y2, box8 y3]) := Lib.hid (by rw [← HTS.out, scr_mid _ _ _ _ _ _ hz h4])
                obtain ⟨rfl, h44⟩ := h4
                have z1 : ((i : Int) % 8 == 4) = true := by simp only [beq_iff_eq]; omega
                have z2 : ((i : Int) % 8 == 0) = false := by simp only [beq_eq_false_iff_ne]; omega
                have HBX : Hid (∀ W : World, Calls Try.prog 45 #[.string ⟨[y0, y1, y2, y3].toArray⟩] W fun e w' => e = .returned (.string ⟨[box8 y0, box8 y1, box8 y2, box8 y3].toArray⟩) ∧ Below W.heap.size W w') := Lib.hid (fun W => rBoxed_any [y0, y1, y2, y3] W (by simp))
                go_wp2_with fail
                refine (HBX.out _).mono ?_
                rintro e w1 ⟨rfl, hb1⟩
                go_wp2_with fail
                go_meet
                exact ⟨by rw [HTQ.out], hb1⟩
              · have HTQ : Hid (T = [y0, y1, y2, y3]) := Lib.hid (by rw [← HTS.out, scr_else _ _ _ _ _ _ hz h4])
                rcases HO.out.1 with rfl | rfl
                · have z2 : ((i : Int) % 4 == 0) = false := z0
                  clear z0 h4
                  go_wp2_with fail
                  go_meet
                  exact ⟨by rw [HTQ.out], Below.refl _ _⟩
                · have z2 : ((i : Int) % 8 == 4) = false := by
                    have h8 : ¬ i % 8 = 4 := fun h => h4 ⟨rfl, h⟩
                    simp only [beq_eq_false_iff_ne]
                    omega
                  have z3 : ((i : Int) % 8 == 0) = false := z0
                  clear z0 h4
                  go_wp2_with fail
                  go_meet
                  exact ⟨by rw [HTQ.out], Below.refl _ _⟩
          case rest =>
            obtain ⟨rfl, hbc⟩ := hcut
            have HOC := Lib.hid (own_later HO1.out hbc)
            have hbC := bt hb hbc
            have hcj := HCJ.out _ HOC.out
            have HXO := Lib.hid (fun W => rXor_any X T 4 W HXL.out HSL.out (by omega))
            rw [xorA_four, ← HNI.out] at HXO
            clear HO1 hb hbc HCM HCJ HNI
            go_wp2_with fail
            refine (HXO.out _).mono ?_
            rintro e w5 ⟨rfl, hb5⟩
            have HO5 := Lib.hid (own_later HOC.out hb5)
            have hB5 := bt hbC hb5
            have hnews := news_new w5 [sv V] 9
            have hz5 := hB5.size
            clear HOC hbC hb5 hcj HXO
            go_wp2_with (at_builtin; refine wpList_append_own _ rfl _ _ 72 rfl w.heap.size 9 i0 (.string ⟨#[]⟩) 1 16 Try.underlying72 hi hz0 hz1 hz2 rfl (by decide) _ _ _ rfl (own_alloc HO5.out _) ⟨w5.heap.size, 0, none⟩ 1 1 [sv V] rfl rfl hnews (by simp [Value.oneCell']) (by unfold maxLen; omega) (by omega) (by simp; omega) ?_; intro v' w6 hown' hgrow _; obtain ⟨g1, c1, rfl⟩ := ownsRow_succ hown'; have HO6 := Lib.hid hown'; have hb6 : Below w.heap.size w w6 := (hB5.alloc hB5.size _).grown hgrow (by simp; omega) (fun r e => by cases e; exact (HO5.out.lt _ rfl).1); clear hown' hnews hgrow)
            exact ⟨⟨i + 1, g1, c1, by omega, by omega, by go_num, rfl, Lib.hid (by rw [HT.out, List.map_append]; exact HO6.out), hb6⟩, by simp [intOf]; omega⟩
        · obtain rfl : i = many := by omega
          rw [List.take_of_length_le (Nat.le_of_eq HLL.out)] at HO1
          go_wp2_with fail
          go_ret
          exact ⟨g, d, rfl, HO1.out, hb⟩
end Go.Proofs.Ytnifgfnocdffcaa
/- A key's round keys as texts. -/
namespace Go.Proofs.Ytnifgfnocdffcaa
open Go.RowKit

theorem own_mono {W : World} {base b : Nat} {e : TypeId} {size : Nat} {v : Value} {n : Nat} {xs : List Value} (h : W.ownsRow base e size v n xs) (hb : b ≤ base) : W.ownsRow b e size v n xs := by
  obtain ⟨h1, h2⟩ := h
  refine ⟨h1, ?_⟩
  rcases h2 with h2 | ⟨g, cap, cur, hv, hg, r⟩
  · exact Or.inl h2
  · exact Or.inr ⟨g, cap, cur, hv, Nat.le_trans hb hg, r⟩
/-- A key's round keys. -/
def keysL (key : List UInt8) : List (List UInt8) := (List.range (key.length / 4 + 7)).map (keyAt (keysF key))
theorem keysL_len (key : List UInt8) : (keysL key).length = key.length / 4 + 7 := by simp [keysL]
theorem keysL_take (key : List UInt8) (k : Nat) (h : k < key.length / 4 + 7) : (keysL key).take (k + 1) = (keysL key).take k ++ [keyAt (keysF key) k] := by
  rw [List.take_succ_eq_append_getElem (by rw [keysL_len]; exact h)]
  congr 2
  simp [keysL]
end Go.Proofs.Ytnifgfnocdffcaa
/- The contract of the reference's Keys. -/
namespace Go.Proofs.Ytnifgfnocdffcaa
open Go.RowKit

theorem keyAt_cat (F : List UInt8) (k : Nat) : keyAt F k = colG F (4 * k) ++ colG F (4 * k + 1) ++ colG F (4 * k + 2) ++ colG F (4 * k + 3) := by
  have e0 : 4 * (4 * k) = 16 * k := by omega
  have e1 : 4 * (4 * k + 1) = 16 * k + 4 := by omega
  have e2 : 4 * (4 * k + 2) = 16 * k + 8 := by omega
  have e3 : 4 * (4 * k + 3) = 16 * k + 12 := by omega
  rw [colG_four, colG_four, colG_four, colG_four, e0, e1, e2, e3]
  rfl

set_option maxRecDepth 100000 in
set_option maxHeartbeats 4000000 in
theorem rKeys_any (key : List UInt8) (n : Nat) (w : World) (hk : key.length = 16 ∨ key.length = 32) (hn : key.length / 4 + 7 = n) :
    Calls Try.prog 42 #[.string ⟨key.toArray⟩] w fun e w' => ∃ g c, e = .returned (.slice (some ⟨g, 0, none⟩) n c) ∧ w'.ownsRow w.heap.size 9 1 (.slice (some ⟨g, 0, none⟩) n c) n ((keysL key).map sv) ∧ Below w.heap.size w w' := by
  obtain ⟨i0, hi, hz0, hz1, hz2⟩ := info_parts infoS
  have H1 := Lib.hid (rWords_any key (key.length / 4) (4 * n) w hk rfl (by omega))
  have HT := Lib.hid (keysL_take key)
  have HLL : Hid ((keysL key).length = n) := Lib.hid (by rw [keysL_len, hn])
  have HWL : Hid ((wordsL key).length = 4 * n) := Lib.hid (by rw [wordsL_len, hn])
  have HAT := Lib.hid (wordsL_at key)
  have HCT := Lib.hid (keyAt_cat (keysF key))
  have hn15 : n ≤ 15 := by omega
  rw [hn] at HT HAT
  obtain ⟨F, hF⟩ : ∃ F, keysF key = F := ⟨_, rfl⟩
  rw [hF] at HT HAT HCT
  obtain ⟨L, hL⟩ : ∃ L, keysL key = L := ⟨_, rfl⟩
  rw [hL] at HT HLL ⊢
  generalize wordsL key = D at H1 HWL HAT
  obtain ⟨m, hm⟩ : ∃ m, 4 * n = m := ⟨_, rfl⟩
  rw [hm] at H1 HWL HAT
  have HM := Lib.hid hm
  have hm60 : (m : Int) ≤ 60 := by omega
  clear hk hn hF hL hm
  go_enter Try.func42, Try.ntmps42
  go_wp2_with fail
  refine H1.out.mono ?_
  rintro e w1 ⟨gw, cw, rfl, hw, hb1⟩
  have HW1 := Lib.hid hw
  have HGL : Hid (gw < w1.heap.size) := Lib.hid (hw.lt _ rfl).2
  have HCL : Hid (∀ j, j < m → w1.cell? ⟨gw, j, none⟩ = some (sv (D.getD j []))) := Lib.hid (fun j hj => by rw [hw.cellAt j (by omega), svs_at _ _ (by rw [HWL.out]; omega)])
  have HO0 : Hid ((w1.alloc (.cells #[] 9)).ownsRow w1.heap.size 9 1 (.slice (some ⟨w1.heap.size, 0, none⟩) 0 0) 0 ((L.take 0).map sv)) := Lib.hid (own_nil (Blk.new w1 _ _) (Nat.le_refl _))
  have hb0 := ba (Below.refl w1.heap.size w1) (.cells #[] 9)
  have HB1 := Lib.hid hb1
  clear hw hb1 H1
  go_wp2_with fail
  go_loopw [4, 5] (fun ov iv wr => ∃ k g d : Nat, k ≤ n ∧ iv = .int .i64 ((4 * k : Nat) : Int) ∧ ov = .slice (some ⟨g, 0, none⟩) k d ∧ Hid (wr.ownsRow w1.heap.size 9 1 (.slice (some ⟨g, 0, none⟩) k d) k ((L.take k).map sv)) ∧ Below w1.heap.size w1 wr) (fun _ iv _ => m - (intOf iv).toNat)
  case atStart => exact ⟨0, _, _, Nat.zero_le _, rfl, rfl, HO0, hb0⟩
  case round =>
    clear HO0 hb0
    obtain ⟨k, g, d, hk, rfl, rfl, HO, hb⟩ := hrel
    by_cases hlt : k < n
    · have HTK := Lib.hid (HT.out k hlt)
      have hct := HCT.out k
      rw [← HAT.out _ (by have := HM.out; omega), ← HAT.out _ (by have := HM.out; omega), ← HAT.out _ (by have := HM.out; omega), ← HAT.out _ (by have := HM.out; omega)] at hct
      obtain ⟨i, hik⟩ : ∃ i, 4 * k = i := ⟨_, rfl⟩
      have him : i + 3 < m := by have := HM.out; omega
      have himi : (i : Int) < (m : Int) := by omega
      rw [hik] at hct ⊢
      have hc0 := HCL.out i (by omega)
      have hc1 := HCL.out (i + 1) (by omega)
      have hc2 := HCL.out (i + 2) (by omega)
      have hc3 := HCL.out (i + 3) (by omega)
      have hl0 : (D.getD i []).length = 4 := by rw [HAT.out _ (by omega)]; exact tab_len _ _
      have hl1 : (D.getD (i + 1) []).length = 4 := by rw [HAT.out _ (by omega)]; exact tab_len _ _
      have hl2 : (D.getD (i + 2) []).length = 4 := by rw [HAT.out _ (by omega)]; exact tab_len _ _
      have hl3 : (D.getD (i + 3) []).length = 4 := by rw [HAT.out _ (by omega)]; exact tab_len _ _
      generalize D.getD i [] = a0 at hct hc0 hl0
      generalize D.getD (i + 1) [] = a1 at hct hc1 hl1
      generalize D.getD (i + 2) [] = a2 at hct hc2 hl2
      generalize D.getD (i + 3) [] = a3 at hct hc3 hl3
      rw [hct] at HTK
      have HC := Lib.hid (fun (W : World) (hW : Below w1.heap.size w1 W) => (⟨(hW.cell (p := ⟨gw, i, none⟩) HGL.out).trans hc0, (hW.cell (p := ⟨gw, i + 1, none⟩) HGL.out).trans hc1, (hW.cell (p := ⟨gw, i + 2, none⟩) HGL.out).trans hc2, (hW.cell (p := ⟨gw, i + 3, none⟩) HGL.out).trans hc3⟩ : _ ∧ _ ∧ _ ∧ _))
      have HA1 : Hid (∀ W : World, (Op.stringOp .add ⟨a0.toArray⟩ ⟨a1.toArray⟩).run Try.prog W = .ok (.string ⟨(a0 ++ a1).toArray⟩) W) := Lib.hid fun W => run_string_add_lists (P := Try.prog) W _ _ (by omega) (by omega)
      have HA2 : Hid (∀ W : World, (Op.stringOp .add ⟨(a0 ++ a1).toArray⟩ ⟨a2.toArray⟩).run Try.prog W = .ok (.string ⟨(a0 ++ a1 ++ a2).toArray⟩) W) := Lib.hid fun W => run_string_add_lists (P := Try.prog) W _ _ (by simp; omega) (by omega)
      have HA3 : Hid (∀ W : World, (Op.stringOp .add ⟨(a0 ++ a1 ++ a2).toArray⟩ ⟨a3.toArray⟩).run Try.prog W = .ok (.string ⟨(a0 ++ a1 ++ a2 ++ a3).toArray⟩) W) := Lib.hid fun W => run_string_add_lists (P := Try.prog) W _ _ (by simp; omega) (by omega)
      generalize a0 ++ a1 = b1 at HA1 HA2 HA3 HTK
      generalize b1 ++ a2 = b2 at HA2 HA3 HTK
      generalize b2 ++ a3 = b3 at HA3 HTK
      have HIK := Lib.hid hik
      obtain ⟨n1, hn1⟩ : ∃ x, i + 1 = x := ⟨_, rfl⟩
      obtain ⟨n2, hn2⟩ : ∃ x, i + 2 = x := ⟨_, rfl⟩
      obtain ⟨n3, hn3⟩ : ∃ x, i + 3 = x := ⟨_, rfl⟩
      rw [hn1, hn2, hn3] at HC
      have e1 : (i : Int) + 1 = (n1 : Int) := by omega
      have e2 : (i : Int) + 2 = (n2 : Int) := by omega
      have e3 : (i : Int) + 3 = (n3 : Int) := by omega
      have i1 : (n1 : Int) < (m : Int) := by omega
      have i2 : (n2 : Int) < (m : Int) := by omega
      have i3 : (n3 : Int) < (m : Int) := by omega
      have HWN : Hid (IntKind.i64.wrap (n1 : Int) = (n1 : Int) ∧ IntKind.i64.wrap (n2 : Int) = (n2 : Int) ∧ IntKind.i64.wrap (n3 : Int) = (n3 : Int)) := Lib.hid (by refine ⟨?_, ?_, ?_⟩ <;> (rw [IntKind.wrap_i64]; omega))
      have hz := hb.size
      clear hct hc0 hc1 hc2 hc3 hl0 hl1 hl2 hl3 hik hn1 hn2 hn3
      go_wp2_with fail
      have HOD : Hid (wr.drew.ownsRow w1.heap.size 9 1 (.slice (some ⟨g, 0, none⟩) k d) k ((L.take k).map sv)) := HO
      have hbD := hb.drew
      refine wp_region_held_drew (S := fun W => Below w1.heap.size w1 W) (by kernel_rfl) hbD (fun hHeld => ?_)
      refine wpAnyH_take (i := 0) (oi := ⟨some 15, _, _, _, _, _⟩) (v := ?_) rfl (by kernel_rfl) (by kernel_rfl) (by kernel_rfl) (fun _ _ _ h => h) (Or.inl ⟨by rfl, ?_⟩) (by assumption) ?_
      rotate_left
      · (intro w9 hSw; (try dsimp only at hSw); go_simp; try with_reducible rfl)
      try simp only [Act.put, List.setIfInBounds_toArray, List.set_cons_zero, List.set_cons_succ]
      refine wpAnyH_take (i := 1) (oi := ⟨some 16, _, _, _, _, _⟩) (v := ?_) rfl (by kernel_rfl) (by kernel_rfl) (by kernel_rfl) (fun _ _ _ h => h) (Or.inl ⟨by rfl, ?_⟩) (by assumption) ?_
      rotate_left
      · (intro w9 hSw; (try dsimp only at hSw); go_simp; try with_reducible rfl)
      try simp only [Act.put, List.setIfInBounds_toArray, List.set_cons_zero, List.set_cons_succ]
      refine wpAnyH_take (i := 2) (oi := ⟨some 17, _, _, _, _, _⟩) (v := ?_) rfl (by kernel_rfl) (by kernel_rfl) (by kernel_rfl) (fun _ _ _ h => h) (Or.inl ⟨by rfl, ?_⟩) (by assumption) ?_
      rotate_left
      · (intro w9 hSw; (try dsimp only at hSw); go_simp; try with_reducible rfl)
      try simp only [Act.put, List.setIfInBounds_toArray, List.set_cons_zero, List.set_cons_succ]
      refine wpAnyH_take (i := 3) (oi := ⟨some 18, _, _, _, _, _⟩) (v := .pointer (some ⟨gw, i, none⟩)) rfl (by kernel_rfl) (by kernel_rfl) (by kernel_rfl) (fun _ _ _ h => h) (Or.inl ⟨by rfl, ?_⟩) (by assumption) ?_
      · (intro w9 hSw; (try dsimp only at hSw); go_simp)
      try simp only [Act.put, List.setIfInBounds_toArray, List.set_cons_zero, List.set_cons_succ]
      refine wpAnyH_take (i := 4) (oi := ⟨some 19, _, _, _, _, _⟩) (v := sv a0) rfl (by kernel_rfl) (by kernel_rfl) (by kernel_rfl) (fun _ _ _ h => h) (Or.inl ⟨by rfl, ?_⟩) (by assumption) ?_
      · (intro w9 hSw; obtain ⟨q0, q1, q2, q3⟩ := HC.out w9 hSw; (try dsimp only at hSw); go_simp)
      try simp only [Act.put, List.setIfInBounds_toArray, List.set_cons_zero, List.set_cons_succ]
      refine wpAnyH_take (i := 5) (oi := ⟨some 20, _, _, _, _, _⟩) (v := ?_) rfl (by kernel_rfl) (by kernel_rfl) (by kernel_rfl) (fun _ _ _ h => h) (Or.inl ⟨by rfl, ?_⟩) (by assumption) ?_
      rotate_left
      · (intro w9 hSw; (try dsimp only at hSw); go_simp; try with_reducible rfl)
      try simp only [Act.put, List.setIfInBounds_toArray, List.set_cons_zero, List.set_cons_succ]
      refine wpAnyH_take (i := 6) (oi := ⟨some 21, _, _, _, _, _⟩) (v := ?_) rfl (by kernel_rfl) (by kernel_rfl) (by kernel_rfl) (fun _ _ _ h => h) (Or.inl ⟨by rfl, ?_⟩) (by assumption) ?_
      rotate_left
      · (intro w9 hSw; (try dsimp only at hSw); go_simp; try with_reducible rfl)
      try simp only [Act.put, List.setIfInBounds_toArray, List.set_cons_zero, List.set_cons_succ]
      refine wpAnyH_take (i := 7) (oi := ⟨some 22, _, _, _, _, _⟩) (v := .int .i64 (n1 : Int)) rfl (by kernel_rfl) (by kernel_rfl) (by kernel_rfl) (fun _ _ _ h => h) (Or.inl ⟨by rfl, ?_⟩) (by assumption) ?_
      · (intro w9 hSw; (try dsimp only at hSw); go_simp; (try rw [e1]); rw [HWN.out.1])
      try simp only [Act.put, List.setIfInBounds_toArray, List.set_cons_zero, List.set_cons_succ]
      refine wpAnyH_take (i := 8) (oi := ⟨some 23, _, _, _, _, _⟩) (v := .pointer (some ⟨gw, n1, none⟩)) rfl (by kernel_rfl) (by kernel_rfl) (by kernel_rfl) (fun _ _ _ h => h) (Or.inl ⟨by rfl, ?_⟩) (by assumption) ?_
      · (intro w9 hSw; (try dsimp only at hSw); go_simp)
      try simp only [Act.put, List.setIfInBounds_toArray, List.set_cons_zero, List.set_cons_succ]
      refine wpAnyH_take (i := 9) (oi := ⟨some 24, _, _, _, _, _⟩) (v := sv a1) rfl (by kernel_rfl) (by kernel_rfl) (by kernel_rfl) (fun _ _ _ h => h) (Or.inl ⟨by rfl, ?_⟩) (by assumption) ?_
      · (intro w9 hSw; obtain ⟨q0, q1, q2, q3⟩ := HC.out w9 hSw; (try dsimp only at hSw); go_simp)
      try simp only [Act.put, List.setIfInBounds_toArray, List.set_cons_zero, List.set_cons_succ]
      refine wpAnyH_take (i := 10) (oi := ⟨some 25, _, _, _, _, _⟩) (v := sv b1) rfl (by kernel_rfl) (by kernel_rfl) (by kernel_rfl) (fun _ _ _ h => h) (Or.inl ⟨by rfl, ?_⟩) (by assumption) ?_
      · (intro w9 hSw; have had := HA1.out w9; (try dsimp only at hSw); go_simp)
      try simp only [Act.put, List.setIfInBounds_toArray, List.set_cons_zero, List.set_cons_succ]
      refine wpAnyH_take (i := 11) (oi := ⟨some 26, _, _, _, _, _⟩) (v := ?_) rfl (by kernel_rfl) (by kernel_rfl) (by kernel_rfl) (fun _ _ _ h => h) (Or.inl ⟨by rfl, ?_⟩) (by assumption) ?_
      rotate_left
      · (intro w9 hSw; (try dsimp only at hSw); go_simp; try with_reducible rfl)
      try simp only [Act.put, List.setIfInBounds_toArray, List.set_cons_zero, List.set_cons_succ]
      refine wpAnyH_take (i := 12) (oi := ⟨some 27, _, _, _, _, _⟩) (v := ?_) rfl (by kernel_rfl) (by kernel_rfl) (by kernel_rfl) (fun _ _ _ h => h) (Or.inl ⟨by rfl, ?_⟩) (by assumption) ?_
      rotate_left
      · (intro w9 hSw; (try dsimp only at hSw); go_simp; try with_reducible rfl)
      try simp only [Act.put, List.setIfInBounds_toArray, List.set_cons_zero, List.set_cons_succ]
      refine wpAnyH_take (i := 13) (oi := ⟨some 28, _, _, _, _, _⟩) (v := .int .i64 (n2 : Int)) rfl (by kernel_rfl) (by kernel_rfl) (by kernel_rfl) (fun _ _ _ h => h) (Or.inl ⟨by rfl, ?_⟩) (by assumption) ?_
      · (intro w9 hSw; (try dsimp only at hSw); go_simp; (try rw [e2]); rw [HWN.out.2.1])
      try simp only [Act.put, List.setIfInBounds_toArray, List.set_cons_zero, List.set_cons_succ]
      refine wpAnyH_take (i := 14) (oi := ⟨some 29, _, _, _, _, _⟩) (v := .pointer (some ⟨gw, n2, none⟩)) rfl (by kernel_rfl) (by kernel_rfl) (by kernel_rfl) (fun _ _ _ h => h) (Or.inl ⟨by rfl, ?_⟩) (by assumption) ?_
      · (intro w9 hSw; (try dsimp only at hSw); go_simp)
      try simp only [Act.put, List.setIfInBounds_toArray, List.set_cons_zero, List.set_cons_succ]
      refine wpAnyH_take (i := 15) (oi := ⟨some 30, _, _, _, _, _⟩) (v := sv a2) rfl (by kernel_rfl) (by kernel_rfl) (by kernel_rfl) (fun _ _ _ h => h) (Or.inl ⟨by rfl, ?_⟩) (by assumption) ?_
      · (intro w9 hSw; obtain ⟨q0, q1, q2, q3⟩ := HC.out w9 hSw; (try dsimp only at hSw); go_simp)
      try simp only [Act.put, List.setIfInBounds_toArray, List.set_cons_zero, List.set_cons_succ]
      refine wpAnyH_take (i := 16) (oi := ⟨some 31, _, _, _, _, _⟩) (v := sv b2) rfl (by kernel_rfl) (by kernel_rfl) (by kernel_rfl) (fun _ _ _ h => h) (Or.inl ⟨by rfl, ?_⟩) (by assumption) ?_
      · (intro w9 hSw; have had := HA2.out w9; (try dsimp only at hSw); go_simp)
      try simp only [Act.put, List.setIfInBounds_toArray, List.set_cons_zero, List.set_cons_succ]
      refine wpAnyH_take (i := 17) (oi := ⟨some 32, _, _, _, _, _⟩) (v := ?_) rfl (by kernel_rfl) (by kernel_rfl) (by kernel_rfl) (fun _ _ _ h => h) (Or.inl ⟨by rfl, ?_⟩) (by assumption) ?_
      rotate_left
      · (intro w9 hSw; (try dsimp only at hSw); go_simp; try with_reducible rfl)
      try simp only [Act.put, List.setIfInBounds_toArray, List.set_cons_zero, List.set_cons_succ]
      refine wpAnyH_take (i := 18) (oi := ⟨some 33, _, _, _, _, _⟩) (v := ?_) rfl (by kernel_rfl) (by kernel_rfl) (by kernel_rfl) (fun _ _ _ h => h) (Or.inl ⟨by rfl, ?_⟩) (by assumption) ?_
      rotate_left
      · (intro w9 hSw; (try dsimp only at hSw); go_simp; try with_reducible rfl)
      try simp only [Act.put, List.setIfInBounds_toArray, List.set_cons_zero, List.set_cons_succ]
      refine wpAnyH_take (i := 19) (oi := ⟨some 34, _, _, _, _, _⟩) (v := .int .i64 (n3 : Int)) rfl (by kernel_rfl) (by kernel_rfl) (by kernel_rfl) (fun _ _ _ h => h) (Or.inl ⟨by rfl, ?_⟩) (by assumption) ?_
      · (intro w9 hSw; (try dsimp only at hSw); go_simp; (try rw [e3]); rw [HWN.out.2.2])
      try simp only [Act.put, List.setIfInBounds_toArray, List.set_cons_zero, List.set_cons_succ]
      refine wpAnyH_take (i := 20) (oi := ⟨some 35, _, _, _, _, _⟩) (v := .pointer (some ⟨gw, n3, none⟩)) rfl (by kernel_rfl) (by kernel_rfl) (by kernel_rfl) (fun _ _ _ h => h) (Or.inl ⟨by rfl, ?_⟩) (by assumption) ?_
      · (intro w9 hSw; (try dsimp only at hSw); go_simp)
      try simp only [Act.put, List.setIfInBounds_toArray, List.set_cons_zero, List.set_cons_succ]
      refine wpAnyH_take (i := 21) (oi := ⟨some 36, _, _, _, _, _⟩) (v := sv a3) rfl (by kernel_rfl) (by kernel_rfl) (by kernel_rfl) (fun _ _ _ h => h) (Or.inl ⟨by rfl, ?_⟩) (by assumption) ?_
      · (intro w9 hSw; obtain ⟨q0, q1, q2, q3⟩ := HC.out w9 hSw; (try dsimp only at hSw); go_simp)
      try simp only [Act.put, List.setIfInBounds_toArray, List.set_cons_zero, List.set_cons_succ]
      refine wpAnyH_take (i := 22) (oi := ⟨some 37, _, _, _, _, _⟩) (v := sv b3) rfl (by kernel_rfl) (by kernel_rfl) (by kernel_rfl) (fun _ _ _ h => h) (Or.inl ⟨by rfl, ?_⟩) (by assumption) ?_
      · (intro w9 hSw; have had := HA3.out w9; (try dsimp only at hSw); go_simp)
      try simp only [Act.put, List.setIfInBounds_toArray, List.set_cons_zero, List.set_cons_succ]
      refine wpAnyH_ready (rs := [23]) (by kernel_rfl) (by simp) ?_
      refine AllReadyH.cons (o := ⟨some 38, _, _, _, _, _⟩) rfl (fun K9 hK9 => ?_) AllReadyH.nil
      go_simp
      refine hK9.out _ _ ?_ (fun hHeld => ?_)
      · exact ba hbD _
      clear hK9 K9
      try simp only [Act.put, List.setIfInBounds_toArray, List.set_cons_zero, List.set_cons_succ]
      refine wpAnyH_ready (rs := [24]) (by kernel_rfl) (by simp) ?_
      refine AllReadyH.cons (o := ⟨some 39, _, _, _, _, _⟩) rfl (fun K9 hK9 => ?_) AllReadyH.nil
      refine step_append_lies _ (by rfl) _ _ _ (by rfl) w1.heap.size 9 i0 (.string ⟨#[]⟩) 1 16 Try.underlying72 hi hz0 hz1 hz2 rfl (by omega) (.slice (some ⟨g, 0, none⟩) k d) k ((L.take k).map sv) (by rfl) (own_alloc HOD.out (.cells #[sv b3] 9)) ⟨wr.heap.size, 0, none⟩ 1 1 [sv b3] (by rfl) rfl (World.news_of_block (cs := #[sv b3]) (t := 9) (fr := (0, 0)) (heap_alloc_new wr.drew _)) (by simp [Value.oneCell']) (by omega) (by unfold maxLen; omega) (by omega) (by simp; omega) (wr.heap.size + 1) (by simp) ?_
      intro g1 c1 w3 hown3 hgrow hat hlt3
      simp only [Act.put, List.setIfInBounds_toArray, List.set_cons_zero, List.set_cons_succ]
      have hb3 : Below w1.heap.size w1 w3 := (hbD.alloc hbD.size (.cells #[sv b3] 9)).grown hgrow (by simp; omega) (fun r e => by cases e; exact (HOD.out.lt _ rfl).1)
      have HO3 := Lib.hid hown3
      clear hown3 hgrow hat hlt3
      refine hK9.out _ _ ?_ (fun hHeld => ?_)
      · exact hb3
      clear hK9 K9
      try simp only [Act.put, List.setIfInBounds_toArray, List.set_cons_zero, List.set_cons_succ]
      refine wpAnyH_take (i := 25) (oi := ⟨some 4, _, _, _, _, _⟩) (v := ?_) rfl (by kernel_rfl) (by kernel_rfl) (by kernel_rfl) (fun _ _ _ h => h) (Or.inl ⟨by rfl, ?_⟩) (by assumption) ?_
      rotate_left
      · (intro w9 hSw; (try dsimp only at hSw); go_simp; try with_reducible rfl)
      try simp only [Act.put, List.setIfInBounds_toArray, List.set_cons_zero, List.set_cons_succ]
      refine wpAnyH_done (by kernel_rfl) ?_ _
      have HI4 : Hid ((i : Int) + 4 = ((4 * (k + 1) : Nat) : Int)) := Lib.hid (by have := HIK.out; omega)
      go_wp2_with fail
      exact ⟨⟨k + 1, g1, c1, by omega, by rw [HI4.out], rfl, Lib.hid (by rw [HTK.out, List.map_append]; exact HO3.out), hb3⟩, by simp [intOf]; omega⟩
    · obtain rfl : k = n := by omega
      rw [List.take_of_length_le (Nat.le_of_eq HLL.out)] at HO
      have HOF := Lib.hid (own_mono HO.out HB1.out.size)
      have hbF := bt HB1.out hb
      rw [HM.out]
      clear HO hb
      go_wp2_with fail
      go_ret
      exact ⟨g, d, rfl, HOF.out, hbF⟩
end Go.Proofs.Ytnifgfnocdffcaa
