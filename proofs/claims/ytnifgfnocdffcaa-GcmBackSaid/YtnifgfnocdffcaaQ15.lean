/- Texts of this seat, one behind the other: ARBase, ARTurn, ARXor, ARMix, ARWordM. -/
import Derived.BigQuiet
import Derived.Test.YtnifgfnocdffcaaQ10
/- The contracts of the reference's text, Boxed and factor. -/
namespace Go.Proofs.Ytnifgfnocdffcaa
open Go.RowKit

theorem own_nil {W : World} {t : TypeId} {g base size : Nat} (h : Blk W g t #[]) (hb : base ≤ g) : W.ownsRow base t size (.slice (some ⟨g, 0, none⟩) 0 0) 0 [] :=
  ⟨by simp, .inr ⟨g, 0, #[], rfl, hb, h, Nat.le_refl _, Nat.zero_le _, by simp, by simp⟩⟩
theorem own_mono' {W : World} {base b : Nat} {e : TypeId} {size : Nat} {v : Value} {n : Nat} {xs : List Value} (h : W.ownsRow base e size v n xs) (hb : b ≤ base) : W.ownsRow b e size v n xs := by
  obtain ⟨h1, h2⟩ := h
  refine ⟨h1, ?_⟩
  rcases h2 with h2 | ⟨g, cap, cur, hv, hg, r⟩
  · exact Or.inl h2
  · exact Or.inr ⟨g, cap, cur, hv, Nat.le_trans hb hg, r⟩

set_option maxRecDepth 100000 in
set_option maxHeartbeats 1000000 in
theorem text_any (base g n c : Nat) (L : List UInt8) (w : World) (h : w.ownsRow base 5 1 (.slice (some ⟨g, 0, none⟩) n c) n (L.map uv)) (hl : L.length = n) :
    Calls Try.prog 62 #[.slice (some ⟨g, 0, none⟩) n c] w fun e w' => e = .returned (.string ⟨L.toArray⟩) ∧ w = w' := by
  have hcv := own_text (l := L) h hl
  clear h hl
  go_enter Try.func62, Try.ntmps62
  go_wp2
  go_ret
  exact ⟨rfl, rfl⟩
theorem rbox8_any (b : UInt8) (w : World) : Calls Try.prog 63 #[.int .u8 (b.toNat : Int)] w fun e w' => e = .returned (uv (box8 b)) ∧ w = w' := by
  have hb := b.toNat_lt
  refine (rbox_any b.toNat w (by omega)).mono ?_
  rintro e w' ⟨rfl, rfl⟩
  rw [← box8_nat]
  exact ⟨rfl, rfl⟩
theorem rmul8_any (a b : UInt8) (w : World) : Calls Try.prog 64 #[.int .u8 (a.toNat : Int), .int .u8 (b.toNat : Int)] w fun e w' => e = .returned (uv (mul8 a b)) ∧ w = w' := by
  have ha := a.toNat_lt
  have hb := b.toNat_lt
  refine (rmul_any a.toNat b.toNat w (by omega) (by omega)).mono ?_
  rintro e w' ⟨rfl, rfl⟩
  rw [← mul8_nat]
  exact ⟨rfl, rfl⟩
theorem rpow2_any (n : Nat) (w : World) (hn : (n : Int) ≤ 1000) : Calls Try.prog 85 #[.int .u8 2, .int .i64 (n : Int)] w fun e w' => e = .returned (uv (pw8 n)) ∧ w = w' := by
  refine (rpw_any 2 n w (by omega) (by omega)).mono ?_
  rintro e w' ⟨rfl, rfl⟩
  have : uv (pw8 n) = .int .u8 ((pw 2 n : Nat) : Int) := by rw [← pw8_nat]
  rw [this]
  exact ⟨rfl, rfl⟩
theorem index_of (l : List UInt8) (i : Nat) (k : Int) (hk : (i : Int) = k) (h : i < l.length) (W : World) : (Instr.index 9 (.string ⟨l.toArray⟩) (.int .i64 k)).run Try.prog W = .ok (uv (ub l i)) W := index_is ⟨l.toArray⟩ i k (ub l i) hk (at_get l i h) W
theorem take_map (f : UInt8 → UInt8) (l : List UInt8) (k : Nat) (h : k < l.length) : (l.take (k + 1)).map f = (l.take k).map f ++ [f (ub l k)] := by
  rw [List.take_succ_eq_append_getElem h, List.map_append, ub_at h]
  rfl

set_option maxRecDepth 100000 in
set_option maxHeartbeats 2000000 in
theorem rBoxed_any (l : List UInt8) (w : World) (hl : l.length ≤ 64) :
    Calls Try.prog 45 #[.string ⟨l.toArray⟩] w fun e w' => e = .returned (.string ⟨(l.map box8).toArray⟩) ∧ Below w.heap.size w w' := by
  obtain ⟨i0, hi, hz0, hz1, hz2⟩ := info_parts info5
  have HIX := Lib.hid (index_of l)
  have HTM := Lib.hid (take_map box8 l)
  have hsz := size_of l
  have HML : Hid ((l.map box8).length = l.length) := Lib.hid (by simp)
  have HTL := Lib.hid (List.take_of_length_le (Nat.le_refl l.length))
  have HTN : Hid (∀ k, k ≤ l.length → ((l.take k).map box8).length = k) := Lib.hid (fun k hk => by simp; omega)
  obtain ⟨n, hn⟩ : ∃ n, l.length = n := ⟨_, rfl⟩
  rw [hn] at hsz hl HIX HTM HML HTL HTN
  have HO0 : Hid ((w.alloc (.cells #[] 5)).ownsRow w.heap.size 5 1 (.slice (some ⟨w.heap.size, 0, none⟩) 0 0) 0 (((l.take 0).map box8).map uv)) := Lib.hid (own_nil (Blk.new w _ _) (Nat.le_refl _))
  have hb0 := ba (Below.refl w.heap.size w) (.cells #[] 5)
  clear hn
  go_enter Try.func45, Try.ntmps45
  go_wp2_with fail
  go_loopw [3, 4] (fun ov iv wr => ∃ k g c : Nat, k ≤ n ∧ iv = .int .i64 k ∧ ov = .slice (some ⟨g, 0, none⟩) k c ∧ Hid (wr.ownsRow w.heap.size 5 1 (.slice (some ⟨g, 0, none⟩) k c) k (((l.take k).map box8).map uv)) ∧ Below w.heap.size w wr) (fun _ iv _ => n - (intOf iv).toNat)
  case atStart => exact ⟨0, _, _, Nat.zero_le _, rfl, rfl, HO0, hb0⟩
  case round =>
    clear HO0 hb0
    obtain ⟨k, g, c, hk, rfl, rfl, HO, hb⟩ := hrel
    by_cases hlt : k < n
    · have hix := HIX.out k k rfl hlt
      have HT := Lib.hid (HTM.out k hlt)
      generalize ub l k = x at hix HT
      have HB := Lib.hid (rbox8_any x wr)
      generalize box8 x = y at HB HT
      have hz := hb.size
      have hnews := news_new wr [uv y] 5
      go_wp2_with fail
      refine HB.out.mono ?_
      rintro e w' ⟨rfl, rfl⟩
      go_wp2_with (at_builtin; refine wpList_append_own _ rfl _ _ 37 rfl w.heap.size 5 i0 (.int .u8 0) 1 1 Try.underlying37 hi hz0 hz1 hz2 rfl (by decide) _ _ _ rfl (own_alloc HO.out _) ⟨wr.heap.size, 0, none⟩ 1 1 [uv y] rfl rfl hnews (by simp [Value.oneCell']) (by unfold maxLen; omega) (by omega) (by simp; omega) ?_; intro v' w6 hown' hgrow _; obtain ⟨g1, c1, rfl⟩ := ownsRow_succ hown'; have HO6 := Lib.hid hown'; have hb6 : Below w.heap.size w w6 := (hb.alloc hb.size _).grown hgrow (by simp; omega) (fun r e => by cases e; exact (HO.out.lt _ rfl).1); clear hown' hnews hgrow)
      exact ⟨⟨k + 1, g1, c1, by omega, by go_num, rfl, Lib.hid (by rw [HT.out, List.map_append]; exact HO6.out), hb6⟩, by simp [intOf]; omega⟩
    · obtain rfl : k = n := by omega
      have HTX := Lib.hid (text_any w.heap.size g k c _ wr HO.out (HTN.out k hk))
      rw [HTL.out] at HTX
      go_wp2_with fail
      refine HTX.out.mono ?_
      rintro e w' ⟨rfl, rfl⟩
      go_wp2_with fail
      go_ret
      exact ⟨rfl, hb⟩

def facB (r k : Nat) : UInt8 := if r = k then 2 else if (r + 1) % 4 = k then 3 else 1
set_option maxRecDepth 100000 in
set_option maxHeartbeats 1000000 in
theorem factor_any (r k : Nat) (w : World) (hr : (r : Int) < 4) (hk : (k : Int) < 4) :
    Calls Try.prog 65 #[.int .i64 (r : Int), .int .i64 (k : Int)] w fun e w' => e = .returned (uv (facB r k)) ∧ w = w' := by
  have hr' : r = 0 ∨ r = 1 ∨ r = 2 ∨ r = 3 := by omega
  have hk' : k = 0 ∨ k = 1 ∨ k = 2 ∨ k = 3 := by omega
  clear hr hk
  rcases hr' with rfl | rfl | rfl | rfl <;> rcases hk' with rfl | rfl | rfl | rfl
  all_goals
    go_enter Try.func65, Try.ntmps65
    go_wp2
    go_ret
    exact ⟨rfl, rfl⟩
end Go.Proofs.Ytnifgfnocdffcaa
/- The contracts of the reference's Turned and Xor. -/
namespace Go.Proofs.Ytnifgfnocdffcaa
open Go.RowKit

theorem take_ub (l : List UInt8) (k : Nat) (h : k < l.length) : l.take (k + 1) = l.take k ++ [ub l k] := by
  rw [List.take_succ_eq_append_getElem h, ub_at h]
theorem turnG_at' (G : List UInt8) (c r : Nat) (hc : c < 4) (hr : r < 4) : ub (turnG G) (c * 4 + r) = ub G (4 * ((c + r) % 4) + r) := by
  unfold turnG
  rw [ub_tab _ (by omega), show (c * 4 + r) / 4 = c by omega, show (c * 4 + r) % 4 = r by omega]

set_option maxRecDepth 100000 in
set_option maxHeartbeats 2000000 in
theorem rTurned_any (l : List UInt8) (w : World) (hl : l.length = 16) :
    Calls Try.prog 44 #[.string ⟨l.toArray⟩] w fun e w' => e = .returned (.string ⟨(turnG l).toArray⟩) ∧ Below w.heap.size w w' := by
  obtain ⟨i0, hi, hz0, hz1, hz2⟩ := info_parts info5
  have HIX := Lib.hid (index_of l)
  have HU := Lib.hid (turnG_at' l)
  have HN : Hid ((turnG l).length = 16) := Lib.hid (tab_len _ _)
  have hsz := size_of l
  rw [hl] at hsz HIX
  obtain ⟨N, hN⟩ : ∃ N, turnG l = N := ⟨_, rfl⟩
  rw [hN] at HU HN ⊢
  have HTK := Lib.hid (take_ub N)
  have HO0 : Hid ((w.alloc (.cells #[] 5)).ownsRow w.heap.size 5 1 (.slice (some ⟨w.heap.size, 0, none⟩) 0 0) 0 ((N.take 0).map uv)) := Lib.hid (own_nil (Blk.new w _ _) (Nat.le_refl _))
  have hb0 := ba (Below.refl w.heap.size w) (.cells #[] 5)
  clear hl hN
  go_enter Try.func44, Try.ntmps44
  go_wp2_with fail
  go_loopw [3, 4] (fun ov iv wr => ∃ c g d : Nat, c ≤ 4 ∧ iv = .int .i64 c ∧ ov = .slice (some ⟨g, 0, none⟩) (c * 4) d ∧ Hid (wr.ownsRow w.heap.size 5 1 (.slice (some ⟨g, 0, none⟩) (c * 4) d) (c * 4) ((N.take (c * 4)).map uv)) ∧ Below w.heap.size w wr) (fun _ iv _ => 4 - (intOf iv).toNat)
  case atStart => exact ⟨0, _, _, Nat.zero_le _, rfl, rfl, HO0, hb0⟩
  case round =>
    clear HO0 hb0
    obtain ⟨c, g, d, hc, rfl, rfl, HO, hb⟩ := hrel
    by_cases hlt : c < 4
    · have hci : (c : Int) < 4 := by omega
      go_wp2_with fail
      go_loopw [3, 5] (fun ov iv wx => ∃ r g d : Nat, r ≤ 4 ∧ iv = .int .i64 r ∧ ov = .slice (some ⟨g, 0, none⟩) (c * 4 + r) d ∧ Hid (wx.ownsRow w.heap.size 5 1 (.slice (some ⟨g, 0, none⟩) (c * 4 + r) d) (c * 4 + r) ((N.take (c * 4 + r)).map uv)) ∧ Below w.heap.size w wx) (fun _ iv _ => 4 - (intOf iv).toNat)
      case atStart => exact ⟨0, _, _, Nat.zero_le _, rfl, rfl, HO, hb⟩
      case round =>
        clear HO hb
        obtain ⟨r, g, d, hr, rfl, rfl, HO, hb⟩ := hrel
        by_cases hrl : r < 4
        · have hri : (r : Int) < 4 := by omega
          have hu := HU.out c r hlt hrl
          have HT := Lib.hid (HTK.out (c * 4 + r) (by rw [HN.out]; omega))
          rw [hu] at HT
          obtain ⟨q, hq⟩ : ∃ q, (c + r) % 4 = q := ⟨_, rfl⟩
          obtain ⟨s, hs⟩ : ∃ s, 4 * q = s := ⟨_, rfl⟩
          obtain ⟨m, hm⟩ : ∃ m, s + r = m := ⟨_, rfl⟩
          rw [hq, hs, hm] at HT
          have e1 : ((c : Int) + (r : Int)).tmod 4 = (q : Int) := by rw [Int.tmod_eq_emod_of_nonneg (by omega)]; omega
          have e2 : 4 * (q : Int) = (s : Int) := by omega
          have e3 : (s : Int) + (r : Int) = (m : Int) := by omega
          have hq4 : (q : Int) < 4 := by omega
          have hs4 : (s : Int) ≤ 12 := by omega
          have hix := HIX.out m m rfl (by omega)
          generalize ub l m = x at hix HT
          have hz := hb.size
          have hnews := news_new wr [uv x] 5
          obtain ⟨p, hp⟩ : ∃ p, c * 4 + r = p := ⟨_, rfl⟩
          have hp1 : c * 4 + (r + 1) = p + 1 := by omega
          rw [hp] at HO HT ⊢
          have HP1 := Lib.hid hp1
          have hpl : p ≤ 15 := by omega
          clear hu hq hs hm hp hp1
          go_upto_region 7 with (at_builtin; refine wpList_append_own _ rfl _ _ 37 rfl w.heap.size 5 i0 (.int .u8 0) 1 1 Try.underlying37 hi hz0 hz1 hz2 rfl (by decide) _ _ _ rfl (own_alloc HO.out _) ⟨wr.heap.size, 0, none⟩ 1 1 [uv x] rfl rfl hnews (by simp [Value.oneCell']) (by unfold maxLen; omega) (by omega) (by simp; omega) ?_; intro v' w6 hown' hgrow _; obtain ⟨g1, c1, rfl⟩ := ownsRow_succ hown'; have HO6 := Lib.hid hown'; have hb6 : Below w.heap.size w w6 := (hb.alloc hb.size _).grown hgrow (by simp; omega) (fun r e => by cases e; exact (HO.out.lt _ rfl).1); clear hown' hnews hgrow)
          go_wp2_with fail
          exact ⟨⟨r + 1, g1, c1, by omega, by go_num, by rw [HP1.out], Lib.hid (by rw [HP1.out, HT.out, List.map_append]; exact HO6.out), hb6⟩, by simp [intOf]; omega⟩
        · obtain rfl : r = 4 := by omega
          have HSE : Hid (c * 4 + 4 = (c + 1) * 4) := Lib.hid (by omega)
          rw [HSE.out] at HO ⊢
          go_wp2_with fail
          exact ⟨⟨c + 1, g, d, by omega, by go_num, rfl, HO, hb⟩, by simp [intOf]; omega⟩
    · obtain rfl : c = 4 := by omega
      rw [List.take_of_length_le (by rw [HN.out]; exact Nat.le_refl 16)] at HO
      have HTX := Lib.hid (text_any w.heap.size g 16 d N wr HO.out HN.out)
      go_wp2_with fail
      refine HTX.out.mono ?_
      rintro e w' ⟨rfl, rfl⟩
      go_wp2_with fail
      go_ret
      exact ⟨rfl, hb⟩
end Go.Proofs.Ytnifgfnocdffcaa
/- The contract of the reference's Xor. -/
namespace Go.Proofs.Ytnifgfnocdffcaa
open Go.RowKit

/-- Two texts, byte by byte. -/
def xorA (n : Nat) (A B : List UInt8) : List UInt8 := tab n fun i => ub A i ^^^ ub B i
set_option maxRecDepth 100000 in
set_option maxHeartbeats 2000000 in
theorem rXor_any (a b : List UInt8) (n : Nat) (w : World) (ha : a.length = n) (hb : b.length = n) (hn : n ≤ 64) :
    Calls Try.prog 43 #[.string ⟨a.toArray⟩, .string ⟨b.toArray⟩] w fun e w' => e = .returned (.string ⟨(xorA n a b).toArray⟩) ∧ Below w.heap.size w w' := by
  obtain ⟨i0, hi, hz0, hz1, hz2⟩ := info_parts info5
  have HIA := Lib.hid (index_of a)
  have HIB := Lib.hid (index_of b)
  have HU : Hid (∀ k, k < n → ub (xorA n a b) k = ub a k ^^^ ub b k) := Lib.hid (fun k hk => ub_tab _ hk)
  have HN : Hid ((xorA n a b).length = n) := Lib.hid (tab_len _ _)
  have hsa := size_of a
  have hsb := size_of b
  rw [ha] at hsa HIA
  rw [hb] at hsb HIB
  obtain ⟨N, hN⟩ : ∃ N, xorA n a b = N := ⟨_, rfl⟩
  rw [hN] at HU HN ⊢
  have HTK := Lib.hid (take_ub N)
  have HO0 : Hid ((w.alloc (.cells #[] 5)).ownsRow w.heap.size 5 1 (.slice (some ⟨w.heap.size, 0, none⟩) 0 0) 0 ((N.take 0).map uv)) := Lib.hid (own_nil (Blk.new w _ _) (Nat.le_refl _))
  have hb0 := ba (Below.refl w.heap.size w) (.cells #[] 5)
  clear ha hb hN
  go_enter Try.func43, Try.ntmps43
  go_wp2_with fail
  go_loopw [5, 6] (fun ov iv wr => ∃ k g d : Nat, k ≤ n ∧ iv = .int .i64 k ∧ ov = .slice (some ⟨g, 0, none⟩) k d ∧ Hid (wr.ownsRow w.heap.size 5 1 (.slice (some ⟨g, 0, none⟩) k d) k ((N.take k).map uv)) ∧ Below w.heap.size w wr) (fun _ iv _ => n - (intOf iv).toNat)
  case atStart => exact ⟨0, _, _, Nat.zero_le _, rfl, rfl, HO0, hb0⟩
  case round =>
    clear HO0 hb0
    obtain ⟨k, g, d, hk, rfl, rfl, HO, hb⟩ := hrel
    by_cases hlt : k < n
    · have hki : (k : Int) < (n : Int) := by omega
      have HT := Lib.hid (HTK.out k (by rw [HN.out]; exact hlt))
      rw [HU.out k hlt] at HT
      have hia := HIA.out k k rfl hlt
      have hib := HIB.out k k rfl hlt
      have hxr := xor_byte (ub a k) (ub b k)
      generalize ub a k = x at hia hxr HT
      generalize ub b k = y at hib hxr HT
      obtain ⟨z, hz⟩ : ∃ z, x ^^^ y = z := ⟨_, rfl⟩
      rw [hz] at hxr HT
      have hzz := hb.size
      have hk64 : k ≤ 63 := by omega
      clear hz
      go_wp2_with fail
      have HOD : Hid (wr.drew.ownsRow w.heap.size 5 1 (.slice (some ⟨g, 0, none⟩) k d) k ((N.take k).map uv)) := HO
      have hbD := hb.drew
      refine wp_region_held_drew (S := fun _ => True) (by kernel_rfl) trivial (fun hHeld => ?_)
      refine wpAnyH_take (i := 0) (oi := ⟨some 14, _, _, _, _, _⟩) (v := ?_) rfl (by kernel_rfl) (by kernel_rfl) (by kernel_rfl) (fun _ _ _ h => h) (Or.inl ⟨by rfl, ?_⟩) (by assumption) ?_
      rotate_left
      · (intro w9 hSw; (try dsimp only at hSw); go_simp; try with_reducible rfl)
      try simp only [Act.put, List.setIfInBounds_toArray, List.set_cons_zero, List.set_cons_succ]
      refine wpAnyH_take (i := 1) (oi := ⟨some 15, _, _, _, _, _⟩) (v := ?_) rfl (by kernel_rfl) (by kernel_rfl) (by kernel_rfl) (fun _ _ _ h => h) (Or.inl ⟨by rfl, ?_⟩) (by assumption) ?_
      rotate_left
      · (intro w9 hSw; (try dsimp only at hSw); go_simp; try with_reducible rfl)
      try simp only [Act.put, List.setIfInBounds_toArray, List.set_cons_zero, List.set_cons_succ]
      refine wpAnyH_take (i := 2) (oi := ⟨some 16, _, _, _, _, _⟩) (v := ?_) rfl (by kernel_rfl) (by kernel_rfl) (by kernel_rfl) (fun _ _ _ h => h) (Or.inl ⟨by rfl, ?_⟩) (by assumption) ?_
      rotate_left
      · (intro w9 hSw; (try dsimp only at hSw); go_simp; try with_reducible rfl)
      try simp only [Act.put, List.setIfInBounds_toArray, List.set_cons_zero, List.set_cons_succ]
      refine wpAnyH_take (i := 3) (oi := ⟨some 17, _, _, _, _, _⟩) (v := uv x) rfl (by kernel_rfl) (by kernel_rfl) (by kernel_rfl) (fun _ _ _ h => h) (Or.inl ⟨by rfl, ?_⟩) (by assumption) ?_
      · (intro w9 hSw; (try dsimp only at hSw); go_simp)
      try simp only [Act.put, List.setIfInBounds_toArray, List.set_cons_zero, List.set_cons_succ]
      refine wpAnyH_take (i := 4) (oi := ⟨some 18, _, _, _, _, _⟩) (v := ?_) rfl (by kernel_rfl) (by kernel_rfl) (by kernel_rfl) (fun _ _ _ h => h) (Or.inl ⟨by rfl, ?_⟩) (by assumption) ?_
      rotate_left
      · (intro w9 hSw; (try dsimp only at hSw); go_simp; try with_reducible rfl)
      try simp only [Act.put, List.setIfInBounds_toArray, List.set_cons_zero, List.set_cons_succ]
      refine wpAnyH_take (i := 5) (oi := ⟨some 19, _, _, _, _, _⟩) (v := ?_) rfl (by kernel_rfl) (by kernel_rfl) (by kernel_rfl) (fun _ _ _ h => h) (Or.inl ⟨by rfl, ?_⟩) (by assumption) ?_
      rotate_left
      · (intro w9 hSw; (try dsimp only at hSw); go_simp; try with_reducible rfl)
      try simp only [Act.put, List.setIfInBounds_toArray, List.set_cons_zero, List.set_cons_succ]
      refine wpAnyH_take (i := 6) (oi := ⟨some 20, _, _, _, _, _⟩) (v := uv y) rfl (by kernel_rfl) (by kernel_rfl) (by kernel_rfl) (fun _ _ _ h => h) (Or.inl ⟨by rfl, ?_⟩) (by assumption) ?_
      · (intro w9 hSw; (try dsimp only at hSw); go_simp)
      try simp only [Act.put, List.setIfInBounds_toArray, List.set_cons_zero, List.set_cons_succ]
      refine wpAnyH_take (i := 7) (oi := ⟨some 21, _, _, _, _, _⟩) (v := uv z) rfl (by kernel_rfl) (by kernel_rfl) (by kernel_rfl) (fun _ _ _ h => h) (Or.inl ⟨by rfl, ?_⟩) (by assumption) ?_
      · (intro w9 hSw; (try dsimp only at hSw); go_simp)
      try simp only [Act.put, List.setIfInBounds_toArray, List.set_cons_zero, List.set_cons_succ]
      refine wpAnyH_ready (rs := [8]) (by kernel_rfl) (by simp) ?_
      refine AllReadyH.cons (o := ⟨some 22, _, _, _, _, _⟩) rfl (fun K9 hK9 => ?_) AllReadyH.nil
      go_simp
      refine hK9.out _ _ ?_ (fun hHeld => ?_)
      · trivial
      clear hK9 K9
      try simp only [Act.put, List.setIfInBounds_toArray, List.set_cons_zero, List.set_cons_succ]
      refine wpAnyH_ready (rs := [9]) (by kernel_rfl) (by simp) ?_
      refine AllReadyH.cons (o := ⟨some 23, _, _, _, _, _⟩) rfl (fun K9 hK9 => ?_) AllReadyH.nil
      refine step_append_lies _ (by rfl) _ _ _ (by rfl) w.heap.size 5 i0 (.int .u8 0) 1 1 Try.underlying37 hi hz0 hz1 hz2 rfl (by omega) (.slice (some ⟨g, 0, none⟩) k d) k ((N.take k).map uv) (by rfl) (own_alloc HOD.out (.cells #[uv z] 5)) ⟨wr.heap.size, 0, none⟩ 1 1 [uv z] (by rfl) rfl (World.news_of_block (cs := #[uv z]) (t := 5) (fr := (0, 0)) (heap_alloc_new wr.drew _)) (by simp [Value.oneCell']) (by omega) (by unfold maxLen; omega) (by omega) (by simp; omega) (wr.heap.size + 1) (by simp) ?_
      intro g1 c1 w3 hown3 hgrow hat hlt3
      simp only [Act.put, List.setIfInBounds_toArray, List.set_cons_zero, List.set_cons_succ]
      have hb3 : Below w.heap.size w w3 := (hbD.alloc hbD.size (.cells #[uv z] 5)).grown hgrow (by simp; omega) (fun r e => by cases e; exact (HOD.out.lt _ rfl).1)
      have HO3 := Lib.hid hown3
      clear hown3 hgrow hat hlt3
      refine hK9.out _ _ ?_ (fun hHeld => ?_)
      · trivial
      clear hK9 K9
      try simp only [Act.put, List.setIfInBounds_toArray, List.set_cons_zero, List.set_cons_succ]
      refine wpAnyH_take (i := 10) (oi := ⟨some 5, _, _, _, _, _⟩) (v := ?_) rfl (by kernel_rfl) (by kernel_rfl) (by kernel_rfl) (fun _ _ _ h => h) (Or.inl ⟨by rfl, ?_⟩) (by assumption) ?_
      rotate_left
      · (intro w9 hSw; (try dsimp only at hSw); go_simp; try with_reducible rfl)
      try simp only [Act.put, List.setIfInBounds_toArray, List.set_cons_zero, List.set_cons_succ]
      refine wpAnyH_done (by kernel_rfl) ?_ _
      go_wp2_with fail
      exact ⟨⟨k + 1, g1, c1, by omega, by go_num, rfl, Lib.hid (by rw [HT.out, List.map_append]; exact HO3.out), hb3⟩, by simp [intOf]; omega⟩
    · obtain rfl : k = n := by omega
      rw [List.take_of_length_le (by rw [HN.out]; exact Nat.le_refl _)] at HO
      have HTX := Lib.hid (text_any w.heap.size g k d N wr HO.out HN.out)
      go_wp2_with fail
      refine HTX.out.mono ?_
      rintro e w' ⟨rfl, rfl⟩
      go_wp2_with fail
      go_ret
      exact ⟨rfl, hb⟩
end Go.Proofs.Ytnifgfnocdffcaa
/- The contract of the reference's Mixed. -/
namespace Go.Proofs.Ytnifgfnocdffcaa
open Go.RowKit

def mixS (l : List UInt8) (c r : Nat) : Nat → UInt8
  | 0 => 0
  | k + 1 => mixS l c r k ^^^ mul8 (ub l (4 * c + k)) (facB r k)
theorem mul8_one (a : UInt8) : mul8 a 1 = a := by
  apply UInt8.toNat_inj.1
  rw [mul8_nat]
  exact cm_one a.toNat_lt
theorem mixS_four (l : List UInt8) (c r : Nat) (hc : c < 4) (hr : r < 4) : mixS l c r 4 = ub (mixG l) (c * 4 + r) := by
  unfold mixG
  rw [ub_tab _ (by omega), show (c * 4 + r) / 4 = c by omega, show (c * 4 + r) % 4 = r by omega]
  unfold mixW
  rw [ub_tab _ hr, ub_colG _ _ (by omega), ub_colG _ _ (by omega), ub_colG _ _ (by omega), ub_colG _ _ (by omega)]
  obtain rfl | rfl | rfl | rfl : r = 0 ∨ r = 1 ∨ r = 2 ∨ r = 3 := by omega
  all_goals
    simp only [mixS, mixB, facB]
    simp [mul8_one]
    try ac_rfl

set_option maxRecDepth 100000 in
set_option maxHeartbeats 4000000 in
theorem rMixed_any (l : List UInt8) (w : World) (hl : l.length = 16) :
    Calls Try.prog 46 #[.string ⟨l.toArray⟩] w fun e w' => e = .returned (.string ⟨(mixG l).toArray⟩) ∧ Below w.heap.size w w' := by
  obtain ⟨i0, hi, hz0, hz1, hz2⟩ := info_parts info5
  have HIX := Lib.hid (index_of l)
  have HU := Lib.hid (mixS_four l)
  have HN : Hid ((mixG l).length = 16) := Lib.hid (tab_len _ _)
  have hsz := size_of l
  rw [hl] at hsz HIX
  obtain ⟨N, hN⟩ : ∃ N, mixG l = N := ⟨_, rfl⟩
  rw [hN] at HU HN ⊢
  have HTK := Lib.hid (take_ub N)
  have HO0 : Hid ((w.alloc (.cells #[] 5)).ownsRow w.heap.size 5 1 (.slice (some ⟨w.heap.size, 0, none⟩) 0 0) 0 ((N.take 0).map uv)) := Lib.hid (own_nil (Blk.new w _ _) (Nat.le_refl _))
  have hb0 := ba (Below.refl w.heap.size w) (.cells #[] 5)
  clear hl hN
  go_enter Try.func46, Try.ntmps46
  go_wp2_with fail
  go_loopw [3, 4] (fun ov iv wr => ∃ c g d : Nat, c ≤ 4 ∧ iv = .int .i64 c ∧ ov = .slice (some ⟨g, 0, none⟩) (c * 4) d ∧ Hid (wr.ownsRow w.heap.size 5 1 (.slice (some ⟨g, 0, none⟩) (c * 4) d) (c * 4) ((N.take (c * 4)).map uv)) ∧ Below w.heap.size w wr) (fun _ iv _ => 4 - (intOf iv).toNat)
  case atStart => exact ⟨0, _, _, Nat.zero_le _, rfl, rfl, HO0, hb0⟩
  case round =>
    clear HO0 hb0
    obtain ⟨c, g, d, hc, rfl, rfl, HO, hb⟩ := hrel
    by_cases hlt : c < 4
    · have hci : (c : Int) < 4 := by omega
      go_wp2_with fail
      go_loopw [3, 5] (fun ov iv wx => ∃ r g d : Nat, r ≤ 4 ∧ iv = .int .i64 r ∧ ov = .slice (some ⟨g, 0, none⟩) (c * 4 + r) d ∧ Hid (wx.ownsRow w.heap.size 5 1 (.slice (some ⟨g, 0, none⟩) (c * 4 + r) d) (c * 4 + r) ((N.take (c * 4 + r)).map uv)) ∧ Below w.heap.size w wx) (fun _ iv _ => 4 - (intOf iv).toNat)
      case atStart => exact ⟨0, _, _, Nat.zero_le _, rfl, rfl, HO, hb⟩
      case round =>
        clear HO hb
        obtain ⟨r, g, d, hr, rfl, rfl, HO, hb⟩ := hrel
        by_cases hrl : r < 4
        · have hri : (r : Int) < 4 := by omega
          have HT := Lib.hid (HTK.out (c * 4 + r) (by rw [HN.out]; omega))
          rw [← HU.out c r hlt hrl] at HT
          obtain ⟨p, hp⟩ : ∃ p, c * 4 + r = p := ⟨_, rfl⟩
          have hp1 : c * 4 + (r + 1) = p + 1 := by omega
          rw [hp] at HO HT ⊢
          have HP1 := Lib.hid hp1
          have hpl : p ≤ 15 := by omega
          clear hp hp1
          have HM0 : Hid (mixS l c r 0 = 0) := Lib.hid rfl
          go_wp2_with fail
          go_loopw [6, 7] (fun nv kv wy => ∃ (k : Nat) (x : UInt8), k ≤ 4 ∧ kv = .int .i64 k ∧ nv = uv x ∧ Hid (mixS l c r k = x) ∧ Hid (wy.ownsRow w.heap.size 5 1 (.slice (some ⟨g, 0, none⟩) p d) p ((N.take p).map uv)) ∧ Below w.heap.size w wy) (fun _ kv _ => 4 - (intOf kv).toNat)
          case atStart => exact ⟨0, 0, by omega, rfl, rfl, HM0, HO, hb⟩
          case round =>
            clear HM0 HO hb
            obtain ⟨k, x, hk, rfl, rfl, HX, HO, hb⟩ := hrel
            by_cases hkl : k < 4
            · have hki : (k : Int) < 4 := by omega
              obtain ⟨s, hs⟩ : ∃ s, 4 * c = s := ⟨_, rfl⟩
              obtain ⟨m, hm⟩ : ∃ m, s + k = m := ⟨_, rfl⟩
              have e2 : 4 * (c : Int) = (s : Int) := by omega
              have e3 : (s : Int) + (k : Int) = (m : Int) := by omega
              have hs4 : (s : Int) ≤ 12 := by omega
              have hix := HIX.out m m rfl (by omega)
              have HX2 : Hid (mixS l c r (k + 1) = x ^^^ mul8 (ub l m) (facB r k)) := Lib.hid (by rw [mixS, HX.out, hs, hm])
              have RF : Hid (∀ q, Calls Try.prog 65 #[.int .i64 (r : Int), .int .i64 (k : Int)] (wr.drewN q) fun e' w' => e' = .returned (uv (facB r k)) ∧ ∃ q', w' = wr.drewN q') := Lib.hid fun q => (factor_any r k _ hri hki).mono fun e w' ⟨h1, h2⟩ => ⟨h1, q, h2.symm⟩
              generalize facB r k = f at HX2 RF
              generalize ub l m = y at hix HX2
              have RM : Hid (∀ q, Calls Try.prog 64 #[.int .u8 (y.toNat : Int), .int .u8 (f.toNat : Int)] (wr.drewN q) fun e' w' => e' = .returned (uv (mul8 y f)) ∧ ∃ q', w' = wr.drewN q') := Lib.hid fun q => (rmul8_any y f _).mono fun e w' ⟨h1, h2⟩ => ⟨h1, q, h2.symm⟩
              generalize mul8 y f = v at HX2 RM
              have hxr := xor_byte x v
              obtain ⟨z, hz⟩ : ∃ z, x ^^^ v = z := ⟨_, rfl⟩
              rw [hz] at HX2 hxr
              clear hs hm hz
              go_wp2_with fail
              go_quiet ((first | (go_at_call 65; with_reducible exact RF.out _) | (go_at_call 64; with_reducible exact RM.out _)))
              go_wp2_with fail
              exact ⟨⟨k + 1, z, by omega, by go_num, rfl, HX2, Lib.hid HO.out, bdn' hb _⟩, by simp [intOf]; omega⟩
            · obtain rfl : k = 4 := by omega
              rw [HX.out] at HT
              have hz := hb.size
              have hnews := news_new wr [uv x] 5
              go_upto_region 7 with (at_builtin; refine wpList_append_own _ rfl _ _ 37 rfl w.heap.size 5 i0 (.int .u8 0) 1 1 Try.underlying37 hi hz0 hz1 hz2 rfl (by decide) _ _ _ rfl (own_alloc HO.out _) ⟨wr.heap.size, 0, none⟩ 1 1 [uv x] rfl rfl hnews (by simp [Value.oneCell']) (by unfold maxLen; omega) (by omega) (by simp; omega) ?_; intro v' w6 hown' hgrow _; obtain ⟨g1, c1, rfl⟩ := ownsRow_succ hown'; have HO6 := Lib.hid hown'; have hb6 : Below w.heap.size w w6 := (hb.alloc hb.size _).grown hgrow (by simp; omega) (fun r e => by cases e; exact (HO.out.lt _ rfl).1); clear hown' hnews hgrow)
              go_wp2_with fail
              exact ⟨⟨r + 1, g1, c1, by omega, by go_num, by rw [HP1.out], Lib.hid (by rw [HP1.out, HT.out, List.map_append]; exact HO6.out), hb6⟩, by simp [intOf]; omega⟩
        · obtain rfl : r = 4 := by omega
          have HSE : Hid (c * 4 + 4 = (c + 1) * 4) := Lib.hid (by omega)
          rw [HSE.out] at HO ⊢
          go_wp2_with fail
          exact ⟨⟨c + 1, g, d, by omega, by go_num, rfl, HO, hb⟩, by simp [intOf]; omega⟩
    · obtain rfl : c = 4 := by omega
      rw [List.take_of_length_le (by rw [HN.out]; exact Nat.le_refl 16)] at HO
      have HTX := Lib.hid (text_any w.heap.size g 16 d N wr HO.out HN.out)
      go_wp2_with fail
      refine HTX.out.mono ?_
      rintro e w' ⟨rfl, rfl⟩
      go_wp2_with fail
      go_ret
      exact ⟨rfl, hb⟩
end Go.Proofs.Ytnifgfnocdffcaa
/- A key's words as texts: plain lists; the contracts of the reference's Key and Why. -/
namespace Go.Proofs.Ytnifgfnocdffcaa
open Go.RowKit

/-- A key's words as the reference has them. -/
def wordsL (key : List UInt8) : List (List UInt8) := (List.range (4 * (key.length / 4 + 7))).map (colG (keysF key))
theorem wordsL_len (key : List UInt8) : (wordsL key).length = 4 * (key.length / 4 + 7) := by simp [wordsL]
theorem wordsL_at (key : List UInt8) (i : Nat) (h : i < 4 * (key.length / 4 + 7)) : (wordsL key).getD i [] = colG (keysF key) i := by simp [wordsL, List.getD, h]
theorem take_getD (L : List (List UInt8)) (k : Nat) (h : k < L.length) : L.take (k + 1) = L.take k ++ [L.getD k []] := by
  rw [List.take_succ_eq_append_getElem h]
  simp [List.getD, h]
theorem extract_list (l : List UInt8) (a b : Nat) : (⟨l.toArray⟩ : ByteArray).extract a b = ⟨((l.take b).drop a).toArray⟩ := by
  apply ByteArray.ext
  apply Array.toList_inj.1
  rw [Lib.extract_data]
  simp [List.drop_take]
theorem key_word (key : List UInt8) (h : key.length = 16 ∨ key.length = 32) (i : Nat) (hi : i < key.length / 4) : (key.take (4 * i + 4)).drop (4 * i) = colG (keysF key) i := by
  apply list_ext (n := 4)
  · rw [List.length_drop, List.length_take]; omega
  · exact tab_len _ _
  · intro r hr
    rw [ub_drop, ub_take (by omega)]
    refine Eq.trans ?_ (ub_colG _ _ hr).symm
    rw [keysF_key key h _ (by omega)]
theorem scr_first (y0 y1 y2 y3 : UInt8) (i own : Nat) (h : i % own = 0) : scrW [y0, y1, y2, y3] i own = [box8 y1 ^^^ pw8 (i / own - 1), box8 y2, box8 y3, box8 y0] := by unfold scrW; rw [if_pos h]; rfl
theorem scr_mid (y0 y1 y2 y3 : UInt8) (i own : Nat) (h : i % own ≠ 0) (h4 : own = 8 ∧ i % own = 4) : scrW [y0, y1, y2, y3] i own = [box8 y0, box8 y1, box8 y2, box8 y3] := by unfold scrW; rw [if_neg h, if_pos h4]; rfl
theorem scr_else (y0 y1 y2 y3 : UInt8) (i own : Nat) (h : i % own ≠ 0) (h4 : ¬ (own = 8 ∧ i % own = 4)) : scrW [y0, y1, y2, y3] i own = [y0, y1, y2, y3] := by unfold scrW; rw [if_neg h, if_neg h4]
theorem xorA_four (A B : List UInt8) : xorA 4 A B = xorW A B := rfl
theorem own_at {W : World} {base g c n : Nat} {L : List (List UInt8)} {j : Nat} {x : List UInt8} (h : W.ownsRow base 9 1 (.slice (some ⟨g, 0, none⟩) n c) n ((L.take n).map sv)) (hl : n ≤ L.length) (hj : j < n) (hx : L.getD j [] = x) : W.cell? ⟨g, j, none⟩ = some (sv x) := by
  rw [h.cellAt j (by omega), svs_at _ _ (by rw [List.length_take]; omega), getD_take _ _ _ _ hj, hx]
set_option maxRecDepth 100000 in
set_option maxHeartbeats 1000000 in
theorem rKey_yes (l : List UInt8) (w : World) (hl : l.length = 16 ∨ l.length = 32) : Calls Try.prog 22 #[.string ⟨l.toArray⟩] w fun e w' => e = .returned (.bool true) ∧ w = w' := by
  have hs := size_of l
  rcases hl with hl | hl
  all_goals
    rw [hl] at hs
    go_enter Try.func22, Try.ntmps22
    go_wp2
    go_ret
    exact ⟨rfl, rfl⟩
set_option maxRecDepth 100000 in
set_option maxHeartbeats 1000000 in
theorem rKey_no (l : List UInt8) (w : World) (hl : ¬ (l.length = 16 ∨ l.length = 32)) : Calls Try.prog 22 #[.string ⟨l.toArray⟩] w fun e w' => e = .returned (.bool false) ∧ w = w' := by
  have hs := size_of l
  obtain ⟨n, hn⟩ : ∃ n, l.length = n := ⟨_, rfl⟩
  rw [hn] at hs hl
  have h1 : ((n : Int) == 16) = false := by simp; omega
  have h2 : ((n : Int) == 32) = false := by simp; omega
  have h3 : ¬ n = 16 := by omega
  have h4 : ¬ n = 32 := by omega
  clear hn
  go_enter Try.func22, Try.ntmps22
  go_wp2
  go_ret
  exact ⟨rfl, rfl⟩
end Go.Proofs.Ytnifgfnocdffcaa
