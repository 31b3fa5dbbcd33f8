/- The contract of the reference's words. -/
import Derived.Test.YtodolffolbkaaaaARWordM
namespace Go.Proofs.Ytodolffolbkaaaa
open Go.RowKit

set_option maxRecDepth 100000 in
set_option maxHeartbeats 8000000 in
theorem rWords_any (key : List UInt8) (own many : Nat) (w : World) (hk : key.length = 16 ∨ key.length = 32) (ho : key.length / 4 = own) (hm : 4 * (own + 7) = many) :
    Calls Try.prog 27 #[.string ⟨key.toArray⟩] w fun e w' => ∃ g c, e = .returned (.slice (some ⟨g, 0, none⟩) many c) ∧ w'.ownsRow w.heap.size 9 1 (.slice (some ⟨g, 0, none⟩) many c) many ((wordsL key).map sv) ∧ Below w.heap.size w w' := by
  obtain ⟨i0, hi, hz0, hz1, hz2⟩ := info_parts infoS
  have HTK := Lib.hid (take_getD (wordsL key))
  have HLL : Hid ((wordsL key).length = many) := Lib.hid (by rw [wordsL_len, ho, hm])
  have HAT := Lib.hid (wordsL_at key)
  have HKW := Lib.hid (key_word key hk)
  have HNW := Lib.hid (keysF_word key hk)
  have HEX := Lib.hid (extract_list key)
  have hsz := size_of key
  have HO : Hid ((own = 4 ∨ own = 8) ∧ own ≤ many ∧ many ≤ 60 ∧ 4 * (own + 7) = many) := Lib.hid (by omega)
  have HLK : Hid (key.length = 4 * own) := Lib.hid (by omega)
  rw [ho, hm] at HAT
  rw [ho, hm] at HNW
  rw [ho] at HKW
  obtain ⟨n, hn⟩ : ∃ n, key.length = n := ⟨_, rfl⟩
  rw [hn] at hsz ho HLK
  have hn4 : (n : Int) / 4 = (own : Int) := by omega
  have hn32 : (n : Int) ≤ 32 := by omega
  have ho7 : (own : Int) ≤ 8 := by have := HO.out; omega
  have hmo : 4 * ((own : Int) + 7) = (many : Int) := by omega
  obtain ⟨F, hF⟩ : ∃ F, keysF key = F := ⟨_, rfl⟩
  rw [hF] at HAT HKW HNW
  obtain ⟨L, hL⟩ : ∃ L, wordsL key = L := ⟨_, rfl⟩
  rw [hL] at HTK HLL HAT ⊢
  have HO0 : Hid ((w.alloc (.cells #[] 9)).ownsRow w.heap.size 9 1 (.slice (some ⟨w.heap.size, 0, none⟩) 0 0) 0 ((L.take 0).map sv)) := Lib.hid (own_nil (Blk.new w _ _) (Nat.le_refl _))
  have hb0 := ba (Below.refl w.heap.size w) (.cells #[] 9)
  clear hk ho hm hn hF hL
  go_enter Try.func27, Try.ntmps27
  go_wp2_with fail
  go_loopw [4, 5] (fun ov iv wr => ∃ k g d : Nat, k ≤ own ∧ iv = .int .i64 k ∧ ov = .slice (some ⟨g, 0, none⟩) k d ∧ Hid (wr.ownsRow w.heap.size 9 1 (.slice (some ⟨g, 0, none⟩) k d) k ((L.take k).map sv)) ∧ Below w.heap.size w wr) (fun _ iv _ => own - (intOf iv).toNat)
  case atStart => exact ⟨0, _, _, Nat.zero_le _, rfl, rfl, HO0, hb0⟩
  case round =>
    clear HO0 hb0
    obtain ⟨k, g, d, hk, rfl, rfl, HO1, hb⟩ := hrel
    by_cases hlt : k < own
    · have hki : (k : Int) < (own : Int) := by omega
      have HT := Lib.hid (HTK.out k (by rw [HLL.out]; have := HO.out; omega))
      rw [HAT.out k (by have := HO.out; omega)] at HT
      have hex := HEX.out (4 * k) (4 * k + 4)
      rw [HKW.out k hlt] at hex
      generalize colG F k = T at hex HT
      obtain ⟨s, hs⟩ : ∃ s, 4 * k = s := ⟨_, rfl⟩
      have e1 : 4 * (k : Int) = (s : Int) := by omega
      obtain ⟨m, hm⟩ : ∃ m, s + 4 = m := ⟨_, rfl⟩
      have e2 : (s : Int) + 4 = (m : Int) := by omega
      have e3 : (m : Int) ≤ (n : Int) := by have := HLK.out; omega
      have e4 : (s : Int) ≤ (m : Int) := by omega
      rw [hs, hm] at hex
      have hz := hb.size
      have hnews := news_new wr [sv T] 9
      clear hs hm
      go_upto_region 5 with (at_builtin; refine wpList_append_own _ rfl _ _ 23 rfl w.heap.size 9 i0 (.string ⟨#[]⟩) 1 16 Try.underlying23 hi hz0 hz1 hz2 rfl (by decide) _ _ _ rfl (own_alloc HO1.out _) ⟨wr.heap.size, 0, none⟩ 1 1 [sv T] rfl rfl hnews (by simp [Value.oneCell']) (by have := HO.out; unfold maxLen; omega) (by have := HO.out; omega) (by simp; omega) ?_; intro v' w6 hown' hgrow _; obtain ⟨g1, c1, rfl⟩ := ownsRow_succ hown'; have HO6 := Lib.hid hown'; have hb6 : Below w.heap.size w w6 := (hb.alloc hb.size _).grown hgrow (by simp; omega) (fun r e => by cases e; exact (HO1.out.lt _ rfl).1); clear hown' hnews hgrow)
      go_wp2_with fail
      exact ⟨⟨k + 1, g1, c1, by omega, by go_num, rfl, Lib.hid (by rw [HT.out, List.map_append]; exact HO6.out), hb6⟩, by simp [intOf]; omega⟩
    · obtain rfl : k = own := by omega
      go_wp2_with fail
      go_loopw [4, 6] (fun ov iv wx => ∃ i g d : Nat, k ≤ i ∧ i ≤ many ∧ iv = .int .i64 i ∧ ov = .slice (some ⟨g, 0, none⟩) i d ∧ Hid (wx.ownsRow w.heap.size 9 1 (.slice (some ⟨g, 0, none⟩) i d) i ((L.take i).map sv)) ∧ Below w.heap.size w wx) (fun _ iv _ => many - (intOf iv).toNat)
      case atStart => exact ⟨k, _, _, Nat.le_refl _, HO.out.2.1, rfl, rfl, HO1, hb⟩
      case round =>
        clear HO1 hb hlt hk
        obtain ⟨i, g, d, hki, him, rfl, rfl, HO1, hb⟩ := hrel
        by_cases hlt : i < many
        · have hii : (i : Int) < (many : Int) := by omega
          have hm60 : (many : Int) ≤ 60 := by have := HO.out; omega
          have hk4 : (4 : Int) ≤ (k : Int) := by have := HO.out; omega
          have hik : (k : Int) ≤ (i : Int) := by omega
          have HT := Lib.hid (HTK.out i (by rw [HLL.out]; exact hlt))
          rw [HAT.out i hlt] at HT
          have hnw := HNW.out i hki hlt
          unfold nextW at hnw
          obtain ⟨j, hj⟩ : ∃ j : Nat, i - k = j := ⟨_, rfl⟩
          obtain ⟨m, hm⟩ : ∃ m : Nat, i - 1 = m := ⟨_, rfl⟩
          have e1 : (i : Int) - 1 = (m : Int) := by omega
          have e2 : (i : Int) - (k : Int) = (j : Int) := by omega
          have j1 : (j : Int) < (i : Int) := by omega
          have m1 : (m : Int) < (i : Int) := by omega
          have HCM := Lib.hid (fun (W : World) (hW : W.ownsRow w.heap.size 9 1 (.slice (some ⟨g, 0, none⟩) i d) i ((L.take i).map sv)) => own_at hW (by rw [HLL.out]; omega) (j := m) (by omega) (HAT.out m (by omega)))
          have HCJ := Lib.hid (fun (W : World) (hW : W.ownsRow w.heap.size 9 1 (.slice (some ⟨g, 0, none⟩) i d) i ((L.take i).map sv)) => own_at hW (by rw [HLL.out]; omega) (j := j) (by omega) (HAT.out j (by omega)))
          rw [hj, hm] at hnw
          have HXL : Hid ((colG F j).length = 4) := Lib.hid (tab_len _ _)
          generalize colG F j = X at hnw HCJ HXL
          obtain ⟨y0, y1, y2, y3, hY⟩ := four_list (L := colG F m) (tab_len _ _)
          rw [hY] at hnw HCM
          have HNI : Hid (colG F i = xorW X (scrW [y0, y1, y2, y3] i k)) := Lib.hid hnw
          generalize colG F i = V at HNI HT
          have HSL := Lib.hid (scrW_len y0 y1 y2 y3 i k)
          obtain ⟨T, hT⟩ : ∃ T, scrW [y0, y1, y2, y3] i k = T := ⟨_, rfl⟩
          rw [hT] at HNI HSL
          have HTS := Lib.hid hT
          clear hT
          clear hnw hj hm hY
          have hcm := HCM.out _ HO1.out
          have hon : ¬ k = 0 := by omega
          go_upto_if 43 with fail
          clear hcm
          go_cut [7] from 28 to 82 (fun s7 wx => s7 = .string ⟨T.toArray⟩ ∧ Below wr.heap.size wr wx)
          case first =>
            by_cases hz : i % k = 0
            · have z0 : ((i : Int) % (k : Int) == 0) = true := by simp only [beq_iff_eq]; omega
              have hTQ : T = [box8 y1 ^^^ pw8 (i / k - 1), box8 y2, box8 y3, box8 y0] := by rw [← HTS.out, scr_first _ _ _ _ _ _ hz]
              have hsy : (⟨[y0, y1, y2, y3].toArray⟩ : ByteArray).size = 4 := rfl
              have hx1 : (⟨[y0, y1, y2, y3].toArray⟩ : ByteArray).extract 1 4 = ⟨[y1, y2, y3].toArray⟩ := extract_list _ _ _
              have hx2 : (⟨[y0, y1, y2, y3].toArray⟩ : ByteArray).extract 0 1 = ⟨[y0].toArray⟩ := extract_list _ _ _
              have had : ∀ W : World, (Op.stringOp .add ⟨[y1, y2, y3].toArray⟩ ⟨[y0].toArray⟩).run Try.prog W = .ok (.string ⟨[y1, y2, y3, y0].toArray⟩) W := fun W => run_string_add_lists (P := Try.prog) W [y1, y2, y3] [y0] (by simp) (by simp)
              have HBX : Hid (∀ W : World, Calls Try.prog 17 #[.string ⟨[y1, y2, y3, y0].toArray⟩] W fun e w' => e = .returned (.string ⟨[box8 y1, box8 y2, box8 y3, box8 y0].toArray⟩) ∧ Below W.heap.size W w') := Lib.hid (fun W => rBoxed_any [y1, y2, y3, y0] W (by simp))
              obtain ⟨q, hq⟩ : ∃ q : Nat, i / k = q := ⟨_, rfl⟩
              have hq1 : 1 ≤ q := by rw [← hq]; exact (Nat.one_le_div_iff (by omega)).2 hki
              have hq60 : q ≤ 60 := by rw [← hq]; exact Nat.le_trans (Nat.div_le_self _ _) (by omega)
              obtain ⟨p, hp⟩ : ∃ p : Nat, q - 1 = p := ⟨_, rfl⟩
              rw [hq, hp] at hTQ
              have HQ : Hid ((i : Int) / (k : Int) = (q : Int) ∧ (q : Int) - 1 = (p : Int) ∧ IntKind.i64.wrap (q : Int) = (q : Int) ∧ IntKind.i64.wrap (p : Int) = (p : Int)) := Lib.hid ⟨by rw [← hq]; simp, by omega, by rw [IntKind.wrap_i64]; omega, by rw [IntKind.wrap_i64]; omega⟩
              have HPW := Lib.hid (fun W => rpow2_any p W (by omega))
              have hxr := xor_byte (box8 y1) (pw8 p)
              obtain ⟨x, hx⟩ : ∃ x, box8 y1 ^^^ pw8 p = x := ⟨_, rfl⟩
              rw [hx] at hxr hTQ
              have HXR := Lib.hid hxr
              have HTQ := Lib.hid hTQ
              clear hq hp hx hxr hTQ
              go_wp2_with fail
              refine wp_region_held_drew (S := fun _ => True) (by kernel_rfl) trivial (fun hHeld => ?_)
              refine wpAnyH_take (i := 0) (oi := ⟨some 44, _, _, _, _, _⟩) (v := ?_) rfl (by kernel_rfl) (by kernel_rfl) (by kernel_rfl) (fun _ _ _ h => h) (Or.inl ⟨by rfl, ?_⟩) (by assumption) ?_
              rotate_left
              · (intro w9 hSw; (try dsimp only at hSw); go_simp; try with_reducible rfl)
              try simp only [Act.put, List.setIfInBounds_toArray, List.set_cons_zero, List.set_cons_succ]
              refine wpAnyH_take (i := 1) (oi := ⟨some 45, _, _, _, _, _⟩) (v := .string ⟨[y1, y2, y3].toArray⟩) rfl (by kernel_rfl) (by kernel_rfl) (by kernel_rfl) (fun _ _ _ h => h) (Or.inl ⟨by rfl, ?_⟩) (by assumption) ?_
              · (intro w9 hSw; (try dsimp only at hSw); go_simp)
              try simp only [Act.put, List.setIfInBounds_toArray, List.set_cons_zero, List.set_cons_succ]
              refine wpAnyH_take (i := 2) (oi := ⟨some 46, _, _, _, _, _⟩) (v := ?_) rfl (by kernel_rfl) (by kernel_rfl) (by kernel_rfl) (fun _ _ _ h => h) (Or.inl ⟨by rfl, ?_⟩) (by assumption) ?_
              rotate_left
              · (intro w9 hSw; (try dsimp only at hSw); go_simp; try with_reducible rfl)
              try simp only [Act.put, List.setIfInBounds_toArray, List.set_cons_zero, List.set_cons_succ]
              refine wpAnyH_take (i := 3) (oi := ⟨some 47, _, _, _, _, _⟩) (v := .string ⟨[y0].toArray⟩) rfl (by kernel_rfl) (by kernel_rfl) (by kernel_rfl) (fun _ _ _ h => h) (Or.inl ⟨by rfl, ?_⟩) (by assumption) ?_
              · (intro w9 hSw; (try dsimp only at hSw); go_simp)
              try simp only [Act.put, List.setIfInBounds_toArray, List.set_cons_zero, List.set_cons_succ]
              refine wpAnyH_take (i := 4) (oi := ⟨some 48, _, _, _, _, _⟩) (v := .string ⟨[y1, y2, y3, y0].toArray⟩) rfl (by kernel_rfl) (by kernel_rfl) (by kernel_rfl) (fun _ _ _ h => h) (Or.inl ⟨by rfl, ?_⟩) (by assumption) ?_
              · (intro w9 hSw; (try dsimp only at hSw); go_simp)
              try simp only [Act.put, List.setIfInBounds_toArray, List.set_cons_zero, List.set_cons_succ]
              refine wpAnyH_ready (rs := [5]) (by kernel_rfl) (by simp) ?_
              refine AllReadyH.cons (o := ⟨some 49, _, _, _, _, _⟩) rfl (fun K9 hK9 => ?_) AllReadyH.nil
              go_simp
              go_at_call 17
              refine (HBX.out _).mono ?_
              rintro e w1 ⟨rfl, hb1⟩
              go_wp2_with fail
              refine hK9.out _ _ ?_ (fun hHeld => ?_)
              · trivial
              clear hK9 K9
              try simp only [Act.put, List.setIfInBounds_toArray, List.set_cons_zero, List.set_cons_succ]
              refine wpAnyH_take (i := 6) (oi := ⟨some 7, _, _, _, _, _⟩) (v := ?_) rfl (by kernel_rfl) (by kernel_rfl) (by kernel_rfl) (fun _ _ _ h => h) (Or.inl ⟨by rfl, ?_⟩) (by assumption) ?_
              rotate_left
              · (intro w9 hSw; (try dsimp only at hSw); go_simp; try with_reducible rfl)
              try simp only [Act.put, List.setIfInBounds_toArray, List.set_cons_zero, List.set_cons_succ]
              refine wpAnyH_done (by kernel_rfl) ?_ _
              have hb1' : Below wr.heap.size wr w1 := bt ((Below.refl wr.heap.size wr).drew) hb1
              clear hb1 hHeld had hx1 hx2 hsy HBX
              have hsy : (⟨[box8 y1, box8 y2, box8 y3, box8 y0].toArray⟩ : ByteArray).size = 4 := rfl
              have hx1 : (⟨[box8 y1, box8 y2, box8 y3, box8 y0].toArray⟩ : ByteArray).extract 1 4 = ⟨[box8 y2, box8 y3, box8 y0].toArray⟩ := extract_list _ _ _
              have had : ∀ W : World, (Op.stringOp .add ⟨[x].toArray⟩ ⟨[box8 y2, box8 y3, box8 y0].toArray⟩).run Try.prog W = .ok (.string ⟨[x, box8 y2, box8 y3, box8 y0].toArray⟩) W := fun W => run_string_add_lists (P := Try.prog) W [x] [box8 y2, box8 y3, box8 y0] (by simp) (by simp)
              have hix := index_of [box8 y1, box8 y2, box8 y3, box8 y0] 0 0 rfl (by simp)
              rw [show ub [box8 y1, box8 y2, box8 y3, box8 y0] 0 = box8 y1 from rfl] at hix
              go_wp2_with fail
              refine wp_region_held_drew (S := fun _ => True) (by kernel_rfl) trivial (fun hHeld => ?_)
              refine wpAnyH_take (i := 0) (oi := ⟨some 50, _, _, _, _, _⟩) (v := ?_) rfl (by kernel_rfl) (by kernel_rfl) (by kernel_rfl) (fun _ _ _ h => h) (Or.inl ⟨by rfl, ?_⟩) (by assumption) ?_
              rotate_left
              · (intro w9 hSw; (try dsimp only at hSw); go_simp; try with_reducible rfl)
              try simp only [Act.put, List.setIfInBounds_toArray, List.set_cons_zero, List.set_cons_succ]
              refine wpAnyH_take (i := 1) (oi := ⟨some 51, _, _, _, _, _⟩) (v := uv (box8 y1)) rfl (by kernel_rfl) (by kernel_rfl) (by kernel_rfl) (fun _ _ _ h => h) (Or.inl ⟨by rfl, ?_⟩) (by assumption) ?_
              · (intro w9 hSw; (try dsimp only at hSw); go_simp)
              try simp only [Act.put, List.setIfInBounds_toArray, List.set_cons_zero, List.set_cons_succ]
              refine wpAnyH_take (i := 2) (oi := ⟨some 52, _, _, _, _, _⟩) (v := ?_) rfl (by kernel_rfl) (by kernel_rfl) (by kernel_rfl) (fun _ _ _ h => h) (Or.inl ⟨by rfl, ?_⟩) (by assumption) ?_
              rotate_left
              · (intro w9 hSw; (try dsimp only at hSw); go_simp; try with_reducible rfl)
              try simp only [Act.put, List.setIfInBounds_toArray, List.set_cons_zero, List.set_cons_succ]
              refine wpAnyH_take (i := 3) (oi := ⟨some 53, _, _, _, _, _⟩) (v := ?_) rfl (by kernel_rfl) (by kernel_rfl) (by kernel_rfl) (fun _ _ _ h => h) (Or.inl ⟨by rfl, ?_⟩) (by assumption) ?_
              rotate_left
              · (intro w9 hSw; (try dsimp only at hSw); go_simp; try with_reducible rfl)
              try simp only [Act.put, List.setIfInBounds_toArray, List.set_cons_zero, List.set_cons_succ]
              refine wpAnyH_take (i := 4) (oi := ⟨some 54, _, _, _, _, _⟩) (v := .int .i64 (q : Int)) rfl (by kernel_rfl) (by kernel_rfl) (by kernel_rfl) (fun _ _ _ h => h) (Or.inl ⟨by rfl, ?_⟩) (by assumption) ?_
              · (intro w9 hSw; (try dsimp only at hSw); go_simp; (try rw [HQ.out.1]); rw [HQ.out.2.2.1])
              try simp only [Act.put, List.setIfInBounds_toArray, List.set_cons_zero, List.set_cons_succ]
              refine wpAnyH_take (i := 5) (oi := ⟨some 55, _, _, _, _, _⟩) (v := .int .i64 (p : Int)) rfl (by kernel_rfl) (by kernel_rfl) (by kernel_rfl) (fun _ _ _ h => h) (Or.inl ⟨by rfl, ?_⟩) (by assumption) ?_
              · (intro w9 hSw; (try dsimp only at hSw); go_simp; (try rw [HQ.out.2.1]); rw [HQ.out.2.2.2])
              try simp only [Act.put, List.setIfInBounds_toArray, List.set_cons_zero, List.set_cons_succ]
              refine wpAnyH_take (i := 10) (oi := ⟨some 60, _, _, _, _, _⟩) (v := ?_) rfl (by kernel_rfl) (by kernel_rfl) (by kernel_rfl) (fun _ _ _ h => h) (Or.inl ⟨by rfl, ?_⟩) (by assumption) ?_
              rotate_left
              · (intro w9 hSw; (try dsimp only at hSw); go_simp; try with_reducible rfl)
              try simp only [Act.put, List.setIfInBounds_toArray, List.set_cons_zero, List.set_cons_succ]
              refine wpAnyH_take (i := 11) (oi := ⟨some 61, _, _, _, _, _⟩) (v := .string ⟨[box8 y2, box8 y3, box8 y0].toArray⟩) rfl (by kernel_rfl) (by kernel_rfl) (by kernel_rfl) (fun _ _ _ h => h) (Or.inl ⟨by rfl, ?_⟩) (by assumption) ?_
              · (intro w9 hSw; (try dsimp only at hSw); go_simp)
              try simp only [Act.put, List.setIfInBounds_toArray, List.set_cons_zero, List.set_cons_succ]
              refine wpAnyH_ready (rs := [6]) (by kernel_rfl) (by simp) ?_
              refine AllReadyH.cons (o := ⟨some 56, _, _, _, _, _⟩) rfl (fun K9 hK9 => ?_) AllReadyH.nil
              go_simp
              go_at_call 44
              refine (HPW.out _).mono ?_
              rintro e x6 ⟨rfl, rfl⟩
              go_wp2_with fail
              refine hK9.out _ _ ?_ (fun hHeld => ?_)
              · trivial
              clear hK9 K9
              try simp only [Act.put, List.setIfInBounds_toArray, List.set_cons_zero, List.set_cons_succ]
              refine wpAnyH_take (i := 7) (oi := ⟨some 57, _, _, _, _, _⟩) (v := uv x) rfl (by kernel_rfl) (by kernel_rfl) (by kernel_rfl) (fun _ _ _ h => h) (Or.inl ⟨by rfl, ?_⟩) (by assumption) ?_
              · (intro w9 hSw; have hxr := HXR.out; (try dsimp only at hSw); go_simp)
              try simp only [Act.put, List.setIfInBounds_toArray, List.set_cons_zero, List.set_cons_succ]
              refine wpAnyH_ready (rs := [8]) (by kernel_rfl) (by simp) ?_
              refine AllReadyH.cons (o := ⟨some 58, _, _, _, _, _⟩) rfl (fun K9 hK9 => ?_) AllReadyH.nil
              go_simp
              refine hK9.out _ _ ?_ (fun hHeld => ?_)
              · trivial
              clear hK9 K9
              try simp only [Act.put, List.setIfInBounds_toArray, List.set_cons_zero, List.set_cons_succ]
              refine wpAnyH_ready (rs := [9]) (by kernel_rfl) (by simp) ?_
              refine AllReadyH.cons (o := ⟨some 59, _, _, _, _, _⟩) rfl (fun K9 hK9 => ?_) AllReadyH.nil
              go_simp
              go_at_call 33
              refine (text_any w1.heap.size w1.heap.size 1 1 [x] _ ⟨rfl, .inr ⟨_, 1, #[uv x], rfl, Nat.le_refl _, heap_alloc_new w1.drew _, Nat.le_refl _, by unfold maxLen; omega, rfl, rfl⟩⟩ rfl).mono ?_
              rintro e x7 ⟨rfl, rfl⟩
              go_wp2_with fail
              refine hK9.out _ _ ?_ (fun hHeld => ?_)
              · trivial
              clear hK9 K9
              try simp only [Act.put, List.setIfInBounds_toArray, List.set_cons_zero, List.set_cons_succ]
              refine wpAnyH_take (i := 12) (oi := ⟨some 62, _, _, _, _, _⟩) (v := .string ⟨[x, box8 y2, box8 y3, box8 y0].toArray⟩) rfl (by kernel_rfl) (by kernel_rfl) (by kernel_rfl) (fun _ _ _ h => h) (Or.inl ⟨by rfl, ?_⟩) (by assumption) ?_
              · (intro w9 hSw; (try dsimp only at hSw); go_simp)
              try simp only [Act.put, List.setIfInBounds_toArray, List.set_cons_zero, List.set_cons_succ]
              refine wpAnyH_take (i := 13) (oi := ⟨some 7, _, _, _, _, _⟩) (v := ?_) rfl (by kernel_rfl) (by kernel_rfl) (by kernel_rfl) (fun _ _ _ h => h) (Or.inl ⟨by rfl, ?_⟩) (by assumption) ?_
              rotate_left
              · (intro w9 hSw; (try dsimp only at hSw); go_simp; try with_reducible rfl)
              try simp only [Act.put, List.setIfInBounds_toArray, List.set_cons_zero, List.set_cons_succ]
              refine wpAnyH_done (by kernel_rfl) ?_ _
              go_wp2_with fail
              go_meet
              exact ⟨by rw [HTQ.out], ba hb1'.drew _⟩
            · have z0 : ((i : Int) % (k : Int) == 0) = false := by simp only [beq_eq_false_iff_ne]; omega
              by_cases h4 : k = 8 ∧ i % k = 4
              · have HTQ : Hid (T = [box8 y0, box8 y1, box8 y2, box8 y3]) := Lib.hid (by rw [← HTS.out, scr_mid _ _ _ _ _ _ hz h4])
                obtain ⟨rfl, h44⟩ := h4
                have z1 : ((i : Int) % 8 == 4) = true := by simp only [beq_iff_eq]; omega
                have z2 : ((i : Int) % 8 == 0) = false := by simp only [beq_eq_false_iff_ne]; omega
                have HBX : Hid (∀ W : World, Calls Try.prog 17 #[.string ⟨[y0, y1, y2, y3].toArray⟩] W fun e w' => e = .returned (.string ⟨[box8 y0, box8 y1, box8 y2, box8 y3].toArray⟩) ∧ Below W.heap.size W w') := Lib.hid (fun W => rBoxed_any [y0, y1, y2, y3] W (by simp))
                go_wp2_with fail
                refine (HBX.out _).mono ?_
                rintro e w1 ⟨rfl, hb1⟩
                go_wp2_with fail
                go_meet
                exact ⟨by rw [HTQ.out], hb1⟩
              · have HTQ : Hid (T = [y0, y1, y2, y3]) := Lib.hid (by rw [← HTS.out, scr_else _ _ _ _ _ _ hz h4])
                rcases HO.out.1 with rfl | rfl
                · have z2 : ((i : Int) % 4 == 0) = false := z0
                  clear z0 h4
                  go_wp2_with fail
                  go_meet
                  exact ⟨by rw [HTQ.out], Below.refl _ _⟩
                · have z2 : ((i : Int) % 8 == 4) = false := by
                    have h8 : ¬ i % 8 = 4 := fun h => h4 ⟨rfl, h⟩
                    simp only [beq_eq_false_iff_ne]
                    omega
                  have z3 : ((i : Int) % 8 == 0) = false := z0
                  clear z0 h4
                  go_wp2_with fail
                  go_meet
                  exact ⟨by rw [HTQ.out], Below.refl _ _⟩
          case rest =>
            obtain ⟨rfl, hbc⟩ := hcut
            have HOC := Lib.hid (own_later HO1.out hbc)
            have hbC := bt hb hbc
            have hcj := HCJ.out _ HOC.out
            have HXO := Lib.hid (fun W => rXor_any X T 4 W HXL.out HSL.out (by omega))
            rw [xorA_four, ← HNI.out] at HXO
            clear HO1 hb hbc HCM HCJ HNI
            go_wp2_with fail
            refine (HXO.out _).mono ?_
            rintro e w5 ⟨rfl, hb5⟩
            have HO5 := Lib.hid (own_later HOC.out hb5)
            have hB5 := bt hbC hb5
            have hnews := news_new w5 [sv V] 9
            have hz5 := hB5.size
            clear HOC hbC hb5 hcj HXO
            go_wp2_with (at_builtin; refine wpList_append_own _ rfl _ _ 23 rfl w.heap.size 9 i0 (.string ⟨#[]⟩) 1 16 Try.underlying23 hi hz0 hz1 hz2 rfl (by decide) _ _ _ rfl (own_alloc HO5.out _) ⟨w5.heap.size, 0, none⟩ 1 1 [sv V] rfl rfl hnews (by simp [Value.oneCell']) (by unfold maxLen; omega) (by omega) (by simp; omega) ?_; intro v' w6 hown' hgrow _; obtain ⟨g1, c1, rfl⟩ := ownsRow_succ hown'; have HO6 := Lib.hid hown'; have hb6 : Below w.heap.size w w6 := (hB5.alloc hB5.size _).grown hgrow (by simp; omega) (fun r e => by cases e; exact (HO5.out.lt _ rfl).1); clear hown' hnews hgrow)
            exact ⟨⟨i + 1, g1, c1, by omega, by omega, by go_num, rfl, Lib.hid (by rw [HT.out, List.map_append]; exact HO6.out), hb6⟩, by simp [intOf]; omega⟩
        · obtain rfl : i = many := by omega
          rw [List.take_of_length_le (Nat.le_of_eq HLL.out)] at HO1
          go_wp2_with fail
          go_ret
          exact ⟨g, d, rfl, HO1.out, hb⟩
end Go.Proofs.Ytodolffolbkaaaa
