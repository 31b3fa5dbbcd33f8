/- Texts of this seat, one behind the other: AKeyW, ARKey, AGrid, AGridM. -/
import Derived.Test.YtcecjoodlmpgnaaQ10
import Derived.Test.YtcecjoodlmpgnaaQ11
/- The contract of keyWords: a key's words, and those made of them. -/
namespace Go.Proofs.Ytcecjoodlmpgnaa
open Go.RowKit

theorem xor_ex (A B : List UInt8) (a b c d a' b' c' d' : UInt8) (w : World) (hA : A = [a, b, c, d]) (hB : B = [a', b', c', d']) :
    Calls Try.prog 86 #[.agg #[uv a, uv b, uv c, uv d], .agg #[uv a', uv b', uv c', uv d']] w fun e w' => e = .returned (.agg ((xorW A B).map uv).toArray) ∧ Below w.heap.size w w' := by
  subst hA hB
  exact xor_any a b c d a' b' c' d' w

set_option maxRecDepth 100000 in
set_option maxHeartbeats 4000000 in
theorem keyWords_any (key : List UInt8) (own many gb : Nat) (w : World) (hx : Blk w gb 5 bxs) (hk : key.length = 16 ∨ key.length = 32) (ho : key.length / 4 = own) (hm : 4 * (own + 7) = many) :
    Calls Try.prog 64 #[.string ⟨key.toArray⟩, .int .i64 (many : Int), .slice (some ⟨gb, 0, none⟩) 256 256] w fun e w' => ∃ g, e = .returned (.slice (some ⟨g, 0, none⟩) many many) ∧ w.heap.size ≤ g ∧ Blk w' g 76 ((keysF key).map uv).toArray ∧ Below w.heap.size w w' := by
  obtain ⟨i0, hi, hz0, hz1, hz2⟩ := info_parts infoW
  have hmk := make_words many (by omega)
  have HX := Lib.hid hx
  have HN : Hid ((keysF key).length = many * 4) := Lib.hid (by rw [keysF_len key hk]; omega)
  have HZ := Lib.hid (zerosL_len (many * 4))
  have HK := Lib.hid (keysF_key key hk)
  have HW := Lib.hid (keysF_word key hk)
  have HO : Hid ((own = 4 ∨ own = 8) ∧ own ≤ many ∧ many ≤ 60) := Lib.hid (by omega)
  have HL : Hid (key.length = 4 * own) := Lib.hid (by omega)
  rw [ho, hm] at HW
  obtain ⟨N, hN⟩ : ∃ N, keysF key = N := ⟨_, rfl⟩
  rw [hN] at HN HK HW ⊢
  have H0 : Hid (((zerosL (many * 4)).map uv).toArray = ((cutL (0 * 4) N (zerosL (many * 4))).map uv).toArray) := Lib.hid (by rw [Nat.zero_mul, cutL_zero])
  obtain ⟨Z, hZ⟩ : ∃ Z, zerosL (many * 4) = Z := ⟨_, rfl⟩
  rw [hZ] at hmk HZ H0
  have hmi : (many : Int) ≤ 60 := by have := HO.out; omega
  have BN := Lib.hid (Blk.new w 76 (Z.map uv).toArray)
  have hbN := ba (Below.refl w.heap.size w) (.cells (Z.map uv).toArray 76)
  generalize hwn : w.alloc (.cells (Z.map uv).toArray 76) = wn at BN hbN
  have hmk' := hmk w
  rw [hwn] at hmk'
  rw [H0.out] at BN
  clear hN hZ hk ho hm hx hmk hwn H0
  go_enter Try.func64, Try.ntmps64
  go_wp2_with fail
  go_loopw [7, 8] (fun wv rv wr => ∃ k : Nat, k ≤ own ∧ wv = .slice (some ⟨w.heap.size, 0, none⟩) k many ∧ rv = .string ⟨(key.drop (4 * k)).toArray⟩ ∧ Hid (Blk wr w.heap.size 76 ((cutL (k * 4) N Z).map uv).toArray) ∧ Below w.heap.size w wr) (fun _ rv _ => match rv with | .string x => x.size | _ => 0)
  case atStart => exact ⟨0, Nat.zero_le _, rfl, rfl, BN, hbN⟩
  case round =>
    clear BN hbN hmk'
    obtain ⟨k, hk, rfl, rfl, B, hb⟩ := hrel
    have hsz : (key.drop (4 * k)).length = 4 * (own - k) := by rw [List.length_drop, HL.out]; omega
    by_cases hlt : k < own
    · have h0 := ub_drop key (4 * k) 0
      have h1 := ub_drop key (4 * k) 1
      have h2 := ub_drop key (4 * k) 2
      have h3 := ub_drop key (4 * k) 3
      rw [← HK.out _ (by rw [HL.out]; omega), show 4 * k + 0 = k * 4 by omega] at h0
      rw [← HK.out _ (by rw [HL.out]; omega), show 4 * k + 1 = k * 4 + 1 by omega] at h1
      rw [← HK.out _ (by rw [HL.out]; omega), show 4 * k + 2 = k * 4 + 2 by omega] at h2
      rw [← HK.out _ (by rw [HL.out]; omega), show 4 * k + 3 = k * 4 + 3 by omega] at h3
      have HR := Lib.hid (fun W => wordOf_any (key.drop (4 * k)) W (by omega))
      have hdd := extract_drop (key.drop (4 * k)) 4 _ hsz
      have hd2 : (key.drop (4 * k)).drop 4 = key.drop (4 * (k + 1)) := by rw [List.drop_drop]; congr 1
      rw [hd2] at hdd
      have hemp : (key.drop (4 * k)).isEmpty = false := by
        cases hq : key.drop (4 * k) with
        | nil => rw [hq] at hsz; simp at hsz; omega
        | cons _ _ => rfl
      have hs := size_of (key.drop (4 * k))
      rw [hsz] at hs
      rw [h0, h1, h2, h3] at HR
      have HP := Lib.hid (fun (W : World) (t : TypeId) (hB : Blk W w.heap.size t ((cutL (k * 4) N Z).map uv).toArray) => put4 hB HN.out HZ.out (by have := HO.out; omega))
      have HSP := Lib.hid (fun (W : World) (t : TypeId) (hB : Blk W w.heap.size t ((cutL (k * 4) N Z).map uv).toArray) => hB.spare (o := k * 4) (n := 4) (by rw [uvs_size, cutL_len HN.out HZ.out (by have := HO.out; omega)]; have := HO.out; omega))
      generalize ub N (k * 4) = n0 at HR HP
      generalize ub N (k * 4 + 1) = n1 at HR HP
      generalize ub N (k * 4 + 2) = n2 at HR HP
      generalize ub N (k * 4 + 3) = n3 at HR HP
      obtain ⟨R, hR⟩ : ∃ R, key.drop (4 * k) = R := ⟨_, rfl⟩
      obtain ⟨m, hm⟩ : ∃ m, 4 * (own - k) = m := ⟨_, rfl⟩
      rw [hR] at HR hdd hs hemp
      rw [hm] at hs hdd
      have m4 : (4 : Int) ≤ (m : Int) := by omega
      clear h0 h1 h2 h3 hsz hd2 hm
      go_wp2_with fail
      refine (HR.out _).mono ?_
      rintro e w1 ⟨rfl, hb1⟩
      have B1 := Lib.hid (B.out.below hb1)
      have hB1 := bt hb hb1
      have z1 := hB1.size
      have HNW := Lib.hid (news_new w1 [uv n0, uv n1, uv n2, uv n3] 76)
      have HB2 := Lib.hid (B1.out.alloc (.cells #[uv n0, uv n1, uv n2, uv n3] 76))
      have hb2 := ba hB1 (.cells #[uv n0, uv n1, uv n2, uv n3] 76)
      clear hb1 B hb
      go_wp2_with (at_builtin; refine wpList_append_room rfl (.tmp 18) (.tmp 21) 113 rfl 76 i0 4 Try.underlying113 hi hz1 w.heap.size 0 k many rfl ⟨w1.heap.size, 0, none⟩ 1 1 [uv n0, uv n1, uv n2, uv n3] rfl rfl HNW.out (uvs_one [n0, n1, n2, n3]) (by have := HO.out; omega) (by rw [Nat.zero_add]; exact HSP.out _ _ HB2.out) ?_)
      have HB3 := Lib.hid (HP.out _ _ HB2.out)
      have hb3 := bw hb2 (Nat.le_refl w.heap.size) (k * 4) [uv n0, uv n1, uv n2, uv n3]
      have hq4 : k * 4 + 4 = (k + 1) * 4 := by omega
      rw [hq4] at HB3
      refine ⟨⟨k + 1, by omega, rfl, rfl, HB3, hb3⟩, ?_⟩
      show (⟨(key.drop (4 * (k + 1))).toArray⟩ : ByteArray).size < (⟨(key.drop (4 * k)).toArray⟩ : ByteArray).size
      rw [size_of, size_of, List.length_drop, List.length_drop, HL.out]
      omega
    · obtain rfl : k = own := by omega
      have hR : key.drop (4 * k) = [] := List.eq_nil_of_length_eq_zero (by omega)
      clear hsz hlt hk
      go_wp2_with fail
      go_loopw [7, 10] (fun wv iv wx => ∃ i : Nat, k ≤ i ∧ i ≤ many ∧ iv = .int .i64 i ∧ wv = .slice (some ⟨w.heap.size, 0, none⟩) i many ∧ Hid (Blk wx w.heap.size 76 ((cutL (i * 4) N Z).map uv).toArray) ∧ Below w.heap.size w wx) (fun _ iv _ => many - (intOf iv).toNat)
      case atStart => exact ⟨k, Nat.le_refl _, HO.out.2.1, rfl, rfl, B, hb⟩
      case round =>
        clear B hb hR
        obtain ⟨i, hki, him, rfl, rfl, B, hb⟩ := hrel
        by_cases hlt : i < many
        · have hili : (i : Int) < (many : Int) := by omega
          obtain ⟨j, hj⟩ : ∃ j : Nat, i - k = j := ⟨_, rfl⟩
          obtain ⟨m, hm⟩ : ∃ m : Nat, i - 1 = m := ⟨_, rfl⟩
          have hji : (i : Int) - (k : Int) = (j : Int) := by omega
          have hmi2 : (i : Int) - 1 = (m : Int) := by have := HO.out; omega
          have j1 : (j : Int) < (i : Int) := by have := HO.out; omega
          have m1 : (m : Int) < (i : Int) := by have := HO.out; omega
          have j0 : (0 : Int) ≤ (j : Int) := by omega
          have m0 : (0 : Int) ≤ (m : Int) := by omega
          have HWJ : Hid (IntKind.i64.wrap (j : Int) = (j : Int) ∧ IntKind.i64.wrap (m : Int) = (m : Int)) := Lib.hid (by constructor <;> (rw [IntKind.wrap_i64]; omega))
          have hJ : j * 4 + 3 < i * 4 := by have := HO.out; omega
          have hM : m * 4 + 3 < i * 4 := by have := HO.out; omega
          have hcj : colG N (i - k) = [ub N (j * 4), ub N (j * 4 + 1), ub N (j * 4 + 2), ub N (j * 4 + 3)] := by rw [hj, colG_four, Nat.mul_comm]
          have hcm : colG N (i - 1) = [ub N (m * 4), ub N (m * 4 + 1), ub N (m * 4 + 2), ub N (m * 4 + 3)] := by rw [hm, colG_four, Nat.mul_comm]
          have hci : colG N i = [ub N (i * 4), ub N (i * 4 + 1), ub N (i * 4 + 2), ub N (i * 4 + 3)] := by rw [colG_four, Nat.mul_comm]
          have hwi := HW.out i hki hlt
          unfold nextW at hwi
          rw [hci, hcj, hcm] at hwi
          have HP := Lib.hid (fun (W : World) (t : TypeId) (hB : Blk W w.heap.size t ((cutL (i * 4) N Z).map uv).toArray) => put4 hB HN.out HZ.out (by omega))
          have HSP := Lib.hid (fun (W : World) (t : TypeId) (hB : Blk W w.heap.size t ((cutL (i * 4) N Z).map uv).toArray) => hB.spare (o := i * 4) (n := 4) (by rw [uvs_size, cutL_len HN.out HZ.out (by omega)]; omega))
          have HK0 := Lib.hid (kn_of (k := i * 4) B.out HN.out HZ.out (by omega)).drew
          have HKN := Lib.hid (fun (W : World) (t : TypeId) (hB : Blk W w.heap.size t ((cutL (i * 4 + 4) N Z).map uv).toArray) => (kn_of hB HN.out HZ.out (by omega)).le (show i * 4 ≤ i * 4 + 4 by omega))
          have HQ := Lib.hid (fun (W : World) (hW : Kn W w.heap.size N (i * 4)) => (⟨hW (j * 4) (by omega), hW (j * 4 + 1) (by omega), hW (j * 4 + 2) (by omega), hW (j * 4 + 3) (by omega), hW (m * 4) (by omega), hW (m * 4 + 1) (by omega), hW (m * 4 + 2) (by omega), hW (m * 4 + 3) (by omega)⟩ : _ ∧ _ ∧ _ ∧ _ ∧ _ ∧ _ ∧ _ ∧ _))
          obtain ⟨n0, hn0⟩ : ∃ n, ub N (i * 4) = n := ⟨_, rfl⟩
          obtain ⟨n1, hn1⟩ : ∃ n, ub N (i * 4 + 1) = n := ⟨_, rfl⟩
          obtain ⟨n2, hn2⟩ : ∃ n, ub N (i * 4 + 2) = n := ⟨_, rfl⟩
          obtain ⟨n3, hn3⟩ : ∃ n, ub N (i * 4 + 3) = n := ⟨_, rfl⟩
          rw [hn0, hn1, hn2, hn3] at hwi HP
          generalize ub N (j * 4) = x0 at hwi HQ
          generalize ub N (j * 4 + 1) = x1 at hwi HQ
          generalize ub N (j * 4 + 2) = x2 at hwi HQ
          generalize ub N (j * 4 + 3) = x3 at hwi HQ
          have HSC := Lib.hid (fun (W : World) (hW : Blk W gb 5 bxs) => scr_any (ub N (m * 4)) (ub N (m * 4 + 1)) (ub N (m * 4 + 2)) (ub N (m * 4 + 3)) i k gb W hW HO.out.1 hki (by have := HO.out; omega))
          generalize ub N (m * 4) = y0 at hwi HQ HSC
          generalize ub N (m * 4 + 1) = y1 at hwi HQ HSC
          generalize ub N (m * 4 + 2) = y2 at hwi HQ HSC
          generalize ub N (m * 4 + 3) = y3 at hwi HQ HSC
          obtain ⟨s0, s1, s2, s3, hs⟩ := four_list (scrW_len y0 y1 y2 y3 i k)
          rw [hs] at hwi HSC
          have HXR := Lib.hid (fun W => xor_any x0 x1 x2 x3 s0 s1 s2 s3 W)
          rw [← hwi] at HXR
          have HX0 := Lib.hid (HX.out.below hb).drew
          have hb0 := hb.drew
          have HB0 := Lib.hid B.out.drew
          clear hcj hcm hci hwi hn0 hn1 hn2 hn3 hs hJ hM hj hm B hb
          go_wp2_with fail
          refine wp_region_held_drew (S := fun W => Kn W w.heap.size N (i * 4)) (by kernel_rfl) HK0.out (fun hHeld => ?_)
          refine wpAnyH_take (i := 0) (oi := ⟨some 31, _, _, _, _, _⟩) (v := ?_) rfl (by kernel_rfl) (by kernel_rfl) (by kernel_rfl) (fun _ _ _ h => h) (Or.inl ⟨by rfl, ?_⟩) (by assumption) ?_
          rotate_left
          · (intro w9 hSw; (try dsimp only at hSw); go_simp; try with_reducible rfl)
          try simp only [Act.put, List.setIfInBounds_toArray, List.set_cons_zero, List.set_cons_succ]
          refine wpAnyH_take (i := 1) (oi := ⟨some 32, _, _, _, _, _⟩) (v := ?_) rfl (by kernel_rfl) (by kernel_rfl) (by kernel_rfl) (fun _ _ _ h => h) (Or.inl ⟨by rfl, ?_⟩) (by assumption) ?_
          rotate_left
          · (intro w9 hSw; (try dsimp only at hSw); go_simp; try with_reducible rfl)
          try simp only [Act.put, List.setIfInBounds_toArray, List.set_cons_zero, List.set_cons_succ]
          refine wpAnyH_take (i := 2) (oi := ⟨some 33, _, _, _, _, _⟩) (v := ?_) rfl (by kernel_rfl) (by kernel_rfl) (by kernel_rfl) (fun _ _ _ h => h) (Or.inl ⟨by rfl, ?_⟩) (by assumption) ?_
          rotate_left
          · (intro w9 hSw; (try dsimp only at hSw); go_simp; try with_reducible rfl)
          try simp only [Act.put, List.setIfInBounds_toArray, List.set_cons_zero, List.set_cons_succ]
          refine wpAnyH_take (i := 3) (oi := ⟨some 34, _, _, _, _, _⟩) (v := ?_) rfl (by kernel_rfl) (by kernel_rfl) (by kernel_rfl) (fun _ _ _ h => h) (Or.inl ⟨by rfl, ?_⟩) (by assumption) ?_
          rotate_left
          · (intro w9 hSw; (try dsimp only at hSw); go_simp; try with_reducible rfl)
          try simp only [Act.put, List.setIfInBounds_toArray, List.set_cons_zero, List.set_cons_succ]
          refine wpAnyH_take (i := 4) (oi := ⟨some 35, _, _, _, _, _⟩) (v := .int .i64 (j : Int)) rfl (by kernel_rfl) (by kernel_rfl) (by kernel_rfl) (fun _ _ _ h => h) (Or.inl ⟨by rfl, ?_⟩) (by assumption) ?_
          · (intro w9 hSw; (try dsimp only at hSw); go_simp; (try rw [hji]); rw [HWJ.out.1])
          try simp only [Act.put, List.setIfInBounds_toArray, List.set_cons_zero, List.set_cons_succ]
          refine wpAnyH_take (i := 5) (oi := ⟨some 36, _, _, _, _, _⟩) (v := .pointer (some ⟨w.heap.size, j * 4, none⟩)) rfl (by kernel_rfl) (by kernel_rfl) (by kernel_rfl) (fun _ _ _ h => h) (Or.inl ⟨by rfl, ?_⟩) (by assumption) ?_
          · (intro w9 hSw; (try dsimp only at hSw); go_simp)
          try simp only [Act.put, List.setIfInBounds_toArray, List.set_cons_zero, List.set_cons_succ]
          refine wpAnyH_take (i := 6) (oi := ⟨some 37, _, _, _, _, _⟩) (v := .agg #[uv x0, uv x1, uv x2, uv x3]) rfl (by kernel_rfl) (by kernel_rfl) (by kernel_rfl) (fun _ _ _ h => h) (Or.inl ⟨by rfl, ?_⟩) (by assumption) ?_
          · (intro w9 hSw; obtain ⟨q0, q1, q2, q3, -, -, -, -⟩ := HQ.out w9 hSw; (try dsimp only at hSw); go_simp)
          try simp only [Act.put, List.setIfInBounds_toArray, List.set_cons_zero, List.set_cons_succ]
          refine wpAnyH_take (i := 7) (oi := ⟨some 38, _, _, _, _, _⟩) (v := ?_) rfl (by kernel_rfl) (by kernel_rfl) (by kernel_rfl) (fun _ _ _ h => h) (Or.inl ⟨by rfl, ?_⟩) (by assumption) ?_
          rotate_left
          · (intro w9 hSw; (try dsimp only at hSw); go_simp; try with_reducible rfl)
          try simp only [Act.put, List.setIfInBounds_toArray, List.set_cons_zero, List.set_cons_succ]
          refine wpAnyH_take (i := 8) (oi := ⟨some 39, _, _, _, _, _⟩) (v := ?_) rfl (by kernel_rfl) (by kernel_rfl) (by kernel_rfl) (fun _ _ _ h => h) (Or.inl ⟨by rfl, ?_⟩) (by assumption) ?_
          rotate_left
          · (intro w9 hSw; (try dsimp only at hSw); go_simp; try with_reducible rfl)
          try simp only [Act.put, List.setIfInBounds_toArray, List.set_cons_zero, List.set_cons_succ]
          refine wpAnyH_take (i := 9) (oi := ⟨some 40, _, _, _, _, _⟩) (v := .int .i64 (m : Int)) rfl (by kernel_rfl) (by kernel_rfl) (by kernel_rfl) (fun _ _ _ h => h) (Or.inl ⟨by rfl, ?_⟩) (by assumption) ?_
          · (intro w9 hSw; (try dsimp only at hSw); go_simp; (try rw [hmi2]); rw [HWJ.out.2])
          try simp only [Act.put, List.setIfInBounds_toArray, List.set_cons_zero, List.set_cons_succ]
          refine wpAnyH_take (i := 10) (oi := ⟨some 41, _, _, _, _, _⟩) (v := .pointer (some ⟨w.heap.size, m * 4, none⟩)) rfl (by kernel_rfl) (by kernel_rfl) (by kernel_rfl) (fun _ _ _ h => h) (Or.inl ⟨by rfl, ?_⟩) (by assumption) ?_
          · (intro w9 hSw; (try dsimp only at hSw); go_simp)
          try simp only [Act.put, List.setIfInBounds_toArray, List.set_cons_zero, List.set_cons_succ]
          refine wpAnyH_take (i := 11) (oi := ⟨some 42, _, _, _, _, _⟩) (v := .agg #[uv y0, uv y1, uv y2, uv y3]) rfl (by kernel_rfl) (by kernel_rfl) (by kernel_rfl) (fun _ _ _ h => h) (Or.inl ⟨by rfl, ?_⟩) (by assumption) ?_
          · (intro w9 hSw; obtain ⟨-, -, -, -, q0, q1, q2, q3⟩ := HQ.out w9 hSw; (try dsimp only at hSw); go_simp)
          try simp only [Act.put, List.setIfInBounds_toArray, List.set_cons_zero, List.set_cons_succ]
          refine wpAnyH_take (i := 12) (oi := ⟨some 43, _, _, _, _, _⟩) (v := ?_) rfl (by kernel_rfl) (by kernel_rfl) (by kernel_rfl) (fun _ _ _ h => h) (Or.inl ⟨by rfl, ?_⟩) (by assumption) ?_
          rotate_left
          · (intro w9 hSw; (try dsimp only at hSw); go_simp; try with_reducible rfl)
          try simp only [Act.put, List.setIfInBounds_toArray, List.set_cons_zero, List.set_cons_succ]
          refine wpAnyH_take (i := 13) (oi := ⟨some 44, _, _, _, _, _⟩) (v := ?_) rfl (by kernel_rfl) (by kernel_rfl) (by kernel_rfl) (fun _ _ _ h => h) (Or.inl ⟨by rfl, ?_⟩) (by assumption) ?_
          rotate_left
          · (intro w9 hSw; (try dsimp only at hSw); go_simp; try with_reducible rfl)
          try simp only [Act.put, List.setIfInBounds_toArray, List.set_cons_zero, List.set_cons_succ]
          refine wpAnyH_take (i := 14) (oi := ⟨some 45, _, _, _, _, _⟩) (v := ?_) rfl (by kernel_rfl) (by kernel_rfl) (by kernel_rfl) (fun _ _ _ h => h) (Or.inl ⟨by rfl, ?_⟩) (by assumption) ?_
          rotate_left
          · (intro w9 hSw; (try dsimp only at hSw); go_simp; try with_reducible rfl)
          try simp only [Act.put, List.setIfInBounds_toArray, List.set_cons_zero, List.set_cons_succ]
          refine wpAnyH_ready (rs := [15]) (by kernel_rfl) (by simp) ?_
          refine AllReadyH.cons (o := ⟨some 46, _, _, _, _, _⟩) rfl (fun K9 hK9 => ?_) AllReadyH.nil
          go_simp
          go_at_call 87
          refine (HSC.out _ HX0.out).mono ?_
          rintro e x15 ⟨rfl, hb15⟩
          have hS15 : Kn x15 w.heap.size N (i * 4) := HK0.out.later hb15
          go_wp2_with fail
          refine hK9.out _ _ ?_ (fun hHeld => ?_)
          · assumption
          clear hK9 K9
          try simp only [Act.put, List.setIfInBounds_toArray, List.set_cons_zero, List.set_cons_succ]
          refine wpAnyH_ready (rs := [16]) (by kernel_rfl) (by simp) ?_
          refine AllReadyH.cons (o := ⟨some 47, _, _, _, _, _⟩) rfl (fun K9 hK9 => ?_) AllReadyH.nil
          go_simp
          go_at_call 86
          refine (HXR.out _).mono ?_
          rintro e x16 ⟨rfl, hb16⟩
          have hS16 : Kn x16 w.heap.size N (i * 4) := hS15.later hb16
          go_wp2_with fail
          refine hK9.out _ _ ?_ (fun hHeld => ?_)
          · assumption
          clear hK9 K9
          try simp only [Act.put, List.setIfInBounds_toArray, List.set_cons_zero, List.set_cons_succ]
          refine wpAnyH_ready (rs := [17]) (by kernel_rfl) (by simp) ?_
          refine AllReadyH.cons (o := ⟨some 48, _, _, _, _, _⟩) rfl (fun K9 hK9 => ?_) AllReadyH.nil
          go_simp
          refine hK9.out _ _ ?_ (fun hHeld => ?_)
          · exact hS16.later ((Below.refl _ _).alloc (Nat.le_refl _) _)
          clear hK9 K9
          try simp only [Act.put, List.setIfInBounds_toArray, List.set_cons_zero, List.set_cons_succ]
          refine wpAnyH_ready (rs := [18]) (by kernel_rfl) (by simp) ?_
          refine AllReadyH.cons (o := ⟨some 49, _, _, _, _, _⟩) rfl (fun K9 hK9 => ?_) AllReadyH.nil
          have HB17 := Lib.hid (((HB0.out.below hb15).below hb16).alloc (.cells #[uv n0, uv n1, uv n2, uv n3] 76))
          have hb17 := ba (bt (bt hb0 hb15) hb16) (.cells #[uv n0, uv n1, uv n2, uv n3] 76)
          have HP17 := Lib.hid (HP.out _ _ HB17.out)
          have hb18 := bw hb17 (Nat.le_refl w.heap.size) (i * 4) [uv n0, uv n1, uv n2, uv n3]
          refine step_append_room rfl (.tmp 31) (.tmp 48) 113 rfl 76 i0 4 Try.underlying113 hi hz1 w.heap.size 0 i many (by rfl) ⟨x16.heap.size, 0, none⟩ 1 1 [uv n0, uv n1, uv n2, uv n3] (by rfl) rfl (news_new x16 [uv n0, uv n1, uv n2, uv n3] 76) (uvs_one [n0, n1, n2, n3]) (by omega) (by rw [Nat.zero_add]; exact HSP.out _ _ HB17.out) ?_
          simp only [Act.put, List.setIfInBounds_toArray, List.set_cons_zero, List.set_cons_succ, Nat.zero_add]
          refine hK9.out _ _ ?_ (fun hHeld => ?_)
          · exact HKN.out _ _ HP17.out
          clear hK9 K9
          try simp only [Act.put, List.setIfInBounds_toArray, List.set_cons_zero, List.set_cons_succ]
          refine wpAnyH_take (i := 19) (oi := ⟨some 7, _, _, _, _, _⟩) (v := ?_) rfl (by kernel_rfl) (by kernel_rfl) (by kernel_rfl) (fun _ _ _ h => h) (Or.inl ⟨by rfl, ?_⟩) (by assumption) ?_
          rotate_left
          · (intro w9 hSw; (try dsimp only at hSw); go_simp; try with_reducible rfl)
          try simp only [Act.put, List.setIfInBounds_toArray, List.set_cons_zero, List.set_cons_succ]
          refine wpAnyH_done (by kernel_rfl) ?_ _
          have hq4 : i * 4 + 4 = (i + 1) * 4 := by omega
          rw [hq4] at HP17
          clear hHeld HQ HK0 HKN HSC HXR HX0 HB0 HB17 hb17 HSP HP hS15 hS16 hb15 hb16
          generalize ((x16.alloc (Obj.cells #[uv n0, uv n1, uv n2, uv n3] 76)).setCells w.heap.size (i * 4) [uv n0, uv n1, uv n2, uv n3]) = w9 at HP17 hb18
          go_wp2_with fail
          exact ⟨⟨i + 1, by omega, by omega, by go_num, rfl, HP17, hb18⟩, by simp [intOf]; omega⟩
        · obtain rfl : i = many := by omega
          have hB := B.out
          rw [cutL_all HN.out HZ.out] at hB
          have HBN := Lib.hid hB
          clear hB B
          go_wp2_with fail
          go_ret
          exact ⟨_, rfl, Nat.le_refl _, HBN.out, hb⟩
end Go.Proofs.Ytcecjoodlmpgnaa
/- The contract of roundKeys: a key's round keys, one behind the other. -/
namespace Go.Proofs.Ytcecjoodlmpgnaa
open Go.RowKit

set_option maxRecDepth 100000 in
set_option maxHeartbeats 4000000 in
theorem roundKeys_any (key : List UInt8) (rounds gb : Nat) (w : World) (hx : Blk w gb 5 bxs) (hk : key.length = 16 ∨ key.length = 32) (hm : key.length / 4 + 7 = rounds) :
    Calls Try.prog 42 #[.string ⟨key.toArray⟩, .slice (some ⟨gb, 0, none⟩) 256 256] w fun e w' => ∃ g, e = .returned (.slice (some ⟨g, 0, none⟩) rounds rounds) ∧ w.heap.size ≤ g ∧ Blk w' g 78 ((keysF key).map uv).toArray ∧ Below w.heap.size w w' := by
  have HKW := Lib.hid (keyWords_any key (key.length / 4) (4 * rounds) gb w hx hk rfl (by omega))
  have HMK := Lib.hid (fun W => make_grids rounds (by omega) W)
  have HN : Hid ((keysF key).length = rounds * 16) := Lib.hid (by rw [keysF_len key hk]; omega)
  have HZ := Lib.hid (zerosL_len (rounds * 16))
  have HO : Hid (rounds ≤ 15) := Lib.hid (by omega)
  have hsz := size_of key
  obtain ⟨l, hl⟩ : ∃ l, key.length = l := ⟨_, rfl⟩
  rw [hl] at hsz hm
  have hq1 : (l : Int) / 4 + 7 = (rounds : Int) := by omega
  have hq2 : (rounds : Int) * 4 = ((4 * rounds : Nat) : Int) := by omega
  have hq3 : (rounds : Int) ≤ 15 := by omega
  have hq4 : (l : Int) ≤ 32 := by omega
  obtain ⟨many, hmany⟩ : ∃ m, 4 * rounds = m := ⟨_, rfl⟩
  rw [hmany] at HKW hq2
  obtain ⟨N, hN⟩ : ∃ N, keysF key = N := ⟨_, rfl⟩
  rw [hN] at HN HKW ⊢
  have H0 : Hid (((zerosL (rounds * 16)).map uv).toArray = ((cutL (0 * 16) N (zerosL (rounds * 16))).map uv).toArray) := Lib.hid (by rw [Nat.zero_mul, cutL_zero])
  obtain ⟨Z, hZ⟩ : ∃ Z, zerosL (rounds * 16) = Z := ⟨_, rfl⟩
  rw [hZ] at HMK HZ H0
  have HMM := Lib.hid hmany
  clear hN hZ hk hx hl hm hmany
  go_enter Try.func42, Try.ntmps42
  go_wp2_with fail
  refine HKW.out.mono ?_
  rintro e w1 ⟨q, rfl, hq, hQ, hb1⟩
  have hmk := HMK.out w1
  have BN := Lib.hid (Blk.new w1 78 (Z.map uv).toArray)
  have HQ := Lib.hid (hQ.alloc (.cells (Z.map uv).toArray 78))
  have hbN := ba hb1 (.cells (Z.map uv).toArray 78)
  have z1 := hb1.size
  have hqlt := hQ.lt
  obtain ⟨p, hp⟩ : ∃ p, w1.heap.size = p := ⟨_, rfl⟩
  rw [hp] at BN z1 hqlt hmk
  generalize w1.alloc (.cells (Z.map uv).toArray 78) = w2 at hmk BN HQ hbN
  rw [H0.out] at BN
  clear hQ hb1 hp HKW H0
  go_wp2_with fail
  go_loopw [22] (fun iv wr => ∃ i : Nat, i ≤ rounds ∧ iv = .int .i64 i ∧ Hid (Blk wr p 78 ((cutL (i * 16) N Z).map uv).toArray) ∧ Hid (Blk wr q 76 (N.map uv).toArray) ∧ Below w.heap.size w wr) (fun iv _ => rounds - (intOf iv).toNat)
  case atStart => exact ⟨0, Nat.zero_le _, rfl, BN, HQ, hbN⟩
  case round =>
    clear BN HQ hbN hmk
    obtain ⟨i, hi, rfl, B, Q, hb⟩ := hrel
    by_cases hlt : i < rounds
    · have hir : (i : Int) < (rounds : Int) := by omega
      have i0 : (0 : Int) ≤ (i : Int) := by omega
      obtain ⟨s, hs⟩ : ∃ s : Nat, i * 4 = s := ⟨_, rfl⟩
      have his : (i : Int) * 4 = (s : Int) := by omega
      have hsm : (s : Int) ≤ (many : Int) := by have := HMM.out; omega
      have s0 : (0 : Int) ≤ (s : Int) := by omega
      have HWS : Hid (IntKind.i64.wrap (s : Int) = (s : Int)) := Lib.hid (by rw [IntKind.wrap_i64]; have := HMM.out; omega)
      obtain ⟨m, hm⟩ : ∃ m : Nat, many - s = m := ⟨_, rfl⟩
      have hms : (many : Int) - (s : Int) = (m : Int) := by omega
      have HCP := Lib.hid (copy_words wr.drew p (i * 16) q (s * 4) m m N _ _ _ B.out.drew Q.out.drew (by have := HMM.out; omega) (by rw [HN.out]; omega) (by rw [uvs_size, cutL_len HN.out HZ.out (by omega)]; omega))
      have hs16 : s * 4 = i * 16 := by omega
      rw [hs16, cut_copy HN.out HZ.out (by omega)] at HCP
      have HB2 := Lib.hid (B.out.drew.setRow ((cutL (i * 16 + 16) N Z).map uv).toArray)
      have HQ2 := Lib.hid (Q.out.drew.setRow_far (g := p) (by omega) ((cutL (i * 16 + 16) N Z).map uv).toArray)
      have hb2 := below_setRow hb.drew (g := p) (by omega) ((cutL (i * 16 + 16) N Z).map uv).toArray
      have hq16 : i * 16 + 16 = (i + 1) * 16 := by omega
      rw [hq16] at HCP HB2 HQ2 hb2
      have HS16 := Lib.hid hs16
      have hne : ¬ many = s := by have := HMM.out; omega
      go_wp2_with fail
      refine wp_region_held_drew (S := fun _ => True) (by kernel_rfl) trivial (fun hHeld => ?_)
      refine wpAnyH_take (i := 0) (oi := ⟨some 25, _, _, _, _, _⟩) (v := ?_) rfl (by kernel_rfl) (by kernel_rfl) (by kernel_rfl) (fun _ _ _ h => h) (Or.inl ⟨by rfl, ?_⟩) (by assumption) ?_
      rotate_left
      · (intro w9 hSw; (try dsimp only at hSw); go_simp; try with_reducible rfl)
      try simp only [Act.put, List.setIfInBounds_toArray, List.set_cons_zero, List.set_cons_succ]
      refine wpAnyH_take (i := 1) (oi := ⟨some 26, _, _, _, _, _⟩) (v := ?_) rfl (by kernel_rfl) (by kernel_rfl) (by kernel_rfl) (fun _ _ _ h => h) (Or.inl ⟨by rfl, ?_⟩) (by assumption) ?_
      rotate_left
      · (intro w9 hSw; (try dsimp only at hSw); go_simp; try with_reducible rfl)
      try simp only [Act.put, List.setIfInBounds_toArray, List.set_cons_zero, List.set_cons_succ]
      refine wpAnyH_take (i := 2) (oi := ⟨some 27, _, _, _, _, _⟩) (v := .pointer (some ⟨p, i * 16, none⟩)) rfl (by kernel_rfl) (by kernel_rfl) (by kernel_rfl) (fun _ _ _ h => h) (Or.inl ⟨by rfl, ?_⟩) (by assumption) ?_
      · (intro w9 hSw; (try dsimp only at hSw); go_simp)
      try simp only [Act.put, List.setIfInBounds_toArray, List.set_cons_zero, List.set_cons_succ]
      refine wpAnyH_take (i := 3) (oi := ⟨some 28, _, _, _, _, _⟩) (v := .slice (some ⟨p, i * 16, none⟩) 4 4) rfl (by kernel_rfl) (by kernel_rfl) (by kernel_rfl) (fun _ _ _ h => h) (Or.inl ⟨by rfl, ?_⟩) (by assumption) ?_
      · (intro w9 hSw; (try dsimp only at hSw); go_simp)
      try simp only [Act.put, List.setIfInBounds_toArray, List.set_cons_zero, List.set_cons_succ]
      refine wpAnyH_take (i := 4) (oi := ⟨some 29, _, _, _, _, _⟩) (v := ?_) rfl (by kernel_rfl) (by kernel_rfl) (by kernel_rfl) (fun _ _ _ h => h) (Or.inl ⟨by rfl, ?_⟩) (by assumption) ?_
      rotate_left
      · (intro w9 hSw; (try dsimp only at hSw); go_simp; try with_reducible rfl)
      try simp only [Act.put, List.setIfInBounds_toArray, List.set_cons_zero, List.set_cons_succ]
      refine wpAnyH_take (i := 5) (oi := ⟨some 30, _, _, _, _, _⟩) (v := ?_) rfl (by kernel_rfl) (by kernel_rfl) (by kernel_rfl) (fun _ _ _ h => h) (Or.inl ⟨by rfl, ?_⟩) (by assumption) ?_
      rotate_left
      · (intro w9 hSw; (try dsimp only at hSw); go_simp; try with_reducible rfl)
      try simp only [Act.put, List.setIfInBounds_toArray, List.set_cons_zero, List.set_cons_succ]
      refine wpAnyH_take (i := 6) (oi := ⟨some 31, _, _, _, _, _⟩) (v := .int .i64 (s : Int)) rfl (by kernel_rfl) (by kernel_rfl) (by kernel_rfl) (fun _ _ _ h => h) (Or.inl ⟨by rfl, ?_⟩) (by assumption) ?_
      · (intro w9 hSw; (try dsimp only at hSw); go_simp; (try rw [his]); rw [HWS.out])
      try simp only [Act.put, List.setIfInBounds_toArray, List.set_cons_zero, List.set_cons_succ]
      refine wpAnyH_take (i := 7) (oi := ⟨some 32, _, _, _, _, _⟩) (v := .slice (some ⟨q, i * 16, none⟩) m m) rfl (by kernel_rfl) (by kernel_rfl) (by kernel_rfl) (fun _ _ _ h => h) (Or.inl ⟨by rfl, ?_⟩) (by assumption) ?_
      · (intro w9 hSw; (try dsimp only at hSw); go_simp; (try rw [HS16.out]))
      try simp only [Act.put, List.setIfInBounds_toArray, List.set_cons_zero, List.set_cons_succ]
      refine wpAnyH_ready (rs := [8]) (by kernel_rfl) (by simp) ?_
      refine AllReadyH.cons (o := ⟨some 33, _, _, _, _, _⟩) rfl (fun K9 hK9 => ?_) AllReadyH.nil
      have hcp := HCP.out
      go_simp
      refine hK9.out _ _ ?_ (fun hHeld => ?_)
      · trivial
      clear hK9 K9
      try simp only [Act.put, List.setIfInBounds_toArray, List.set_cons_zero, List.set_cons_succ]
      refine wpAnyH_done (by kernel_rfl) ?_ _
      go_wp2_with fail
      exact ⟨⟨i + 1, by omega, by go_num, HB2, HQ2, hb2⟩, by simp [intOf]; omega⟩
    · obtain rfl : i = rounds := by omega
      have hB := B.out
      rw [cutL_all HN.out HZ.out] at hB
      have HBN := Lib.hid hB
      clear hB B
      go_wp2_with fail
      go_ret
      exact ⟨_, rfl, z1, HBN.out, hb⟩
end Go.Proofs.Ytcecjoodlmpgnaa
/- A block's columns; the contracts of gridOf and of a grid's mixed. -/
namespace Go.Proofs.Ytcecjoodlmpgnaa
open Go.RowKit

theorem list16 {L : List UInt8} (h : L.length = 16) : ∃ a b c d e f g h i j k l m n o p, L = [a, b, c, d, e, f, g, h, i, j, k, l, m, n, o, p] := by
  match L, h with
  | [a, b, c, d, e, f, g, h, i, j, k, l, m, n, o, p], _ => exact ⟨a, b, c, d, e, f, g, h, i, j, k, l, m, n, o, p, rfl⟩
theorem gcol_at (G : List UInt8) (hG : G.length = 16) (c : Nat) (hc : c < 4) (W : World) : (Instr.index 78 (.agg (G.map uv).toArray) (.int .i64 (c : Int))).run Try.prog W = .ok (.agg #[uv (ub G (c * 4)), uv (ub G (c * 4 + 1)), uv (ub G (c * 4 + 2)), uv (ub G (c * 4 + 3))]) W := by
  obtain ⟨g0, g1, g2, g3, g4, g5, g6, g7, g8, g9, g10, g11, g12, g13, g14, g15, rfl⟩ := list16 hG
  obtain rfl | rfl | rfl | rfl : c = 0 ∨ c = 1 ∨ c = 2 ∨ c = 3 := by omega
  all_goals kernel_rfl
theorem glen {L : List UInt8} (h : L.length = 16) : (Try.prog.info? 78).map (·.size) = some ((L.map uv).toArray).size := by
  rw [List.size_toArray, List.length_map, h]; kernel_rfl
theorem gzero : #[.int .u8 0, .int .u8 0, .int .u8 0, .int .u8 0, .int .u8 0, .int .u8 0, .int .u8 0, .int .u8 0, .int .u8 0, .int .u8 0, .int .u8 0, .int .u8 0, .int .u8 0, .int .u8 0, .int .u8 0, .int .u8 0] = ((zerosL 16).map uv).toArray := by kernel_rfl
theorem gthere {w : World} {g : Nat} {t : TypeId} {L M : List UInt8} (h : Blk w g t (L.map uv).toArray) (hl : L.length = 16) (hm : M.length = 16) : w.there g 0 (M.map uv).toArray.size := h.there (by rw [uvs_size, uvs_size, hl, hm]; exact Nat.le_refl _)
theorem put4' {w : World} {g : Nat} {t : TypeId} {N M : List UInt8} {n k : Nat} {a b c d : UInt8} (h : Blk w g t ((cutL k N M).map uv).toArray) (hn : N.length = n) (hm : M.length = n) (hk : k + 4 ≤ n)
    (e : [a, b, c, d] = [ub N k, ub N (k + 1), ub N (k + 2), ub N (k + 3)]) : Blk (w.setCells g k [uv a, uv b, uv c, uv d]) g t ((cutL (k + 4) N M).map uv).toArray := by
  simp only [List.cons.injEq] at e
  obtain ⟨rfl, rfl, rfl, rfl, -⟩ := e
  exact put4 h hn hm hk

set_option maxRecDepth 100000 in
set_option maxHeartbeats 1000000 in
theorem gridOf_any (l : List UInt8) (w : World) (hl : l.length = 16) :
    Calls Try.prog 40 #[.string ⟨l.toArray⟩] w fun e w' => e = .returned (.agg (l.map uv).toArray) ∧ Below w.heap.size w w' := by
  have HL := Lib.hid hl
  have HZ := Lib.hid (zerosL_len 16)
  have HE := Lib.hid (fun c => extract_drop l c 16 hl)
  have hsz := size_of l
  rw [hl] at hsz
  have H0 : Hid (((zerosL 16).map uv).toArray = ((cutL (0 * 4) l (zerosL 16)).map uv).toArray) := Lib.hid (by rw [Nat.zero_mul, cutL_zero])
  have HG := Lib.hid gzero
  obtain ⟨Z, hZ⟩ : ∃ Z, zerosL 16 = Z := ⟨_, rfl⟩
  rw [hZ] at HZ H0 HG
  clear hZ hl
  go_enter Try.func40, Try.ntmps40
  go_wp2_with fail
  rw [HG.out]
  have R0 := Lib.hid ((Blk.new w 78 (Z.map uv).toArray).alloc (.cells (Z.map uv).toArray 78))
  have B0 : Hid (Blk ((w.alloc (.cells (Z.map uv).toArray 78)).alloc (.cells (Z.map uv).toArray 78)) (w.heap.size + 1) 78 (Z.map uv).toArray) := Lib.hid (Blk.newAt (by simp) _ _)
  have hb0 := ba (ba (Below.refl w.heap.size w) (.cells (Z.map uv).toArray 78)) (.cells (Z.map uv).toArray 78)
  generalize (w.alloc (.cells (Z.map uv).toArray 78)).alloc (.cells (Z.map uv).toArray 78) = w1 at R0 B0 hb0
  rw [H0.out] at B0
  go_loopw [5] (fun iv wr => ∃ i : Nat, i ≤ 4 ∧ iv = .int .i64 i ∧ Hid (Blk wr w.heap.size 78 (Z.map uv).toArray) ∧ Hid (Blk wr (w.heap.size + 1) 78 ((cutL (i * 4) l Z).map uv).toArray) ∧ Below w.heap.size w wr) (fun iv _ => 4 - (intOf iv).toNat)
  case atStart => exact ⟨0, Nat.zero_le _, rfl, R0, B0, hb0⟩
  case round =>
    clear R0 B0 hb0
    obtain ⟨c, hc, rfl, R, B, hb⟩ := hrel
    by_cases hlt : c < 4
    · have hcl : (c : Int) < 4 := by omega
      obtain ⟨s, hs⟩ : ∃ s : Nat, c * 4 = s := ⟨_, rfl⟩
      have hcs : (c : Int) * 4 = (s : Int) := by omega
      have hs2 : (s : Int) ≤ 16 := by omega
      have hex := HE.out s
      have HWO := Lib.hid (fun W => wordOf_any (l.drop (c * 4)) W (by rw [List.length_drop, HL.out]; omega))
      rw [ub_drop, ub_drop, ub_drop, ub_drop] at HWO
      have HP := Lib.hid (fun (W : World) (t : TypeId) (hB : Blk W (w.heap.size + 1) t ((cutL (c * 4) l Z).map uv).toArray) => put4 hB HL.out HZ.out (by omega))
      rw [Nat.add_zero] at HWO
      generalize ub l (c * 4) = n0 at HWO HP
      generalize ub l (c * 4 + 1) = n1 at HWO HP
      generalize ub l (c * 4 + 2) = n2 at HWO HP
      generalize ub l (c * 4 + 3) = n3 at HWO HP
      have HSE : Hid (c * 4 + 4 = (c + 1) * 4) := Lib.hid (by omega)
      have HLC : Hid ((cutL (c * 4) l Z).length = 16) := Lib.hid (cutL_len HL.out HZ.out (by omega))
      rw [hs] at HWO
      clear hs
      go_wp2_with fail
      refine (HWO.out _).mono ?_
      rintro e w2 ⟨rfl, hb2⟩
      have B2 := Lib.hid (B.out.below hb2)
      have R2 := Lib.hid (R.out.below hb2)
      have hB2 := bt hb hb2
      clear B R hb hb2 hex
      have hz := hB2.size
      have HTH : Hid (w2.there (w.heap.size + 1) (c * 4) (([n0, n1, n2, n3].map uv).toArray).size) := Lib.hid (B2.out.spare (by rw [uvs_size, uvs_size, HLC.out]; simp; omega))
      simp only []
      have B3 := Lib.hid (HP.out _ _ B2.out)
      have R3 := Lib.hid (R2.out.far_ (k := w.heap.size) (g := w.heap.size + 1) (by omega) (c * 4) [uv n0, uv n1, uv n2, uv n3])
      have hb3 := bw hB2 (g := w.heap.size + 1) (by omega) (c * 4) [uv n0, uv n1, uv n2, uv n3]
      rw [HSE.out] at B3
      go_upto_region 6 with (refine wpList_store_mid rfl _ _ _ rfl (w.heap.size + 1) (c * 4) ([n0, n1, n2, n3].map uv).toArray rfl rfl HTH.out (by kernel_rfl) (all_oneCell_toArray (uvs_one [n0, n1, n2, n3])) ?_)
      have hset : w2.setCells (w.heap.size + 1) (c * 4) [uv n0, uv n1, uv n2, uv n3] = w2.setCells (w.heap.size + 1) (c * 4) ([n0, n1, n2, n3].map uv) := rfl
      rw [hset] at B3 R3 hb3
      generalize w2.setCells (w.heap.size + 1) (c * 4) ([n0, n1, n2, n3].map uv) = w3 at B3 R3 hb3
      clear hset HTH B2 R2 hB2
      go_wp2_with fail
      exact ⟨⟨c + 1, by omega, by go_num, R3, B3, hb3⟩, by simp [intOf]; omega⟩
    · obtain rfl : c = 4 := by omega
      have hB := B.out
      rw [show 4 * 4 = 16 from rfl, cutL_all HL.out HZ.out] at hB
      have HBN := Lib.hid hB
      have HONE := Lib.hid (uvs_one l)
      clear hB B
      go_wp2_with (first | (refine wpList_load_row rfl _ _ rfl _ rfl _ _ _ _ HBN.out Try.underlying78 rfl (glen HL.out) ?_) | (refine wpList_store_mid rfl _ _ _ rfl _ _ (l.map uv).toArray rfl rfl (gthere R.out HZ.out HL.out) (glen HL.out) (all_oneCell_toArray HONE.out) ?_))
      have hW := R.out.whole (l.map uv) (by rw [List.length_map, uvs_size, HL.out, HZ.out])
      refine bodyPost_ret (v := .agg (l.map uv).toArray) (results_cell_row rfl _ _ _ _ _ _ _ rfl hW Try.underlying78 rfl (glen HL.out)) rfl ?_
      exact ⟨rfl, bw hb (by omega) _ _⟩
end Go.Proofs.Ytcecjoodlmpgnaa
/- A block's columns, boxed, mixed, and with a key's: in plain lists. -/
namespace Go.Proofs.Ytcecjoodlmpgnaa

theorem col_of {F : List UInt8} (c : Nat) : colG F c = [ub F (c * 4), ub F (c * 4 + 1), ub F (c * 4 + 2), ub F (c * 4 + 3)] := by rw [colG_four, Nat.mul_comm]
theorem four_of {L N : List UInt8} {c : Nat} (hl : L.length = 4) (h : ∀ r, r < 4 → ub L r = ub N (c * 4 + r)) : L = [ub N (c * 4), ub N (c * 4 + 1), ub N (c * 4 + 2), ub N (c * 4 + 3)] := by
  obtain ⟨a, b, d, e, rfl⟩ := four_list hl
  have h0 := h 0 (by omega)
  have h1 := h 1 (by omega)
  have h2 := h 2 (by omega)
  have h3 := h 3 (by omega)
  rw [← h1, ← h2, ← h3, show c * 4 = c * 4 + 0 by omega, ← h0]
  rfl
theorem mixG_col (G : List UInt8) (c : Nat) (hc : c < 4) : mixW [ub G (c * 4), ub G (c * 4 + 1), ub G (c * 4 + 2), ub G (c * 4 + 3)] = [ub (mixG G) (c * 4), ub (mixG G) (c * 4 + 1), ub (mixG G) (c * 4 + 2), ub (mixG G) (c * 4 + 3)] := by
  rw [← col_of]
  refine four_of (tab_len _ _) fun r hr => ?_
  unfold mixG
  rw [ub_tab _ (by omega), show (c * 4 + r) / 4 = c by omega, show (c * 4 + r) % 4 = r by omega]
theorem boxG_col (G : List UInt8) (c : Nat) (hc : c < 4) : boxW [ub G (c * 4), ub G (c * 4 + 1), ub G (c * 4 + 2), ub G (c * 4 + 3)] = [ub (boxG G) (c * 4), ub (boxG G) (c * 4 + 1), ub (boxG G) (c * 4 + 2), ub (boxG G) (c * 4 + 3)] := by
  rw [← col_of]
  refine four_of (tab_len _ _) fun r hr => ?_
  unfold boxG boxW
  rw [ub_tab _ hr, ub_tab _ (by omega), ub_colG _ _ hr, Nat.mul_comm]
theorem keyG_col (G K : List UInt8) (c : Nat) (hc : c < 4) : xorW [ub G (c * 4), ub G (c * 4 + 1), ub G (c * 4 + 2), ub G (c * 4 + 3)] [ub K (c * 4), ub K (c * 4 + 1), ub K (c * 4 + 2), ub K (c * 4 + 3)] = [ub (keyG G K) (c * 4), ub (keyG G K) (c * 4 + 1), ub (keyG G K) (c * 4 + 2), ub (keyG G K) (c * 4 + 3)] := by
  rw [← col_of, ← col_of]
  refine four_of (tab_len _ _) fun r hr => ?_
  unfold keyG xorW
  rw [ub_tab _ hr, ub_tab _ (by omega), ub_colG _ _ hr, ub_colG _ _ hr, Nat.mul_comm]
open Go.RowKit in
/-- A whole array stored, as one step of a region that draws. -/
theorem step_store_mid {P : Program} {ops : Array Oper} {o : Oper} {a : Act} {w : World} {K : Act → World → Prop} {Q : Exit → Act → World → Prop} {E : Prop} (hg : o.guard = none) (ty : TypeId) (x y : Operand) (ho : o.op = .store ty x y)
    (b off : Nat) (cells : Array Value) (hx : a.eval x = .pointer (some ⟨b, off, none⟩)) (hy : a.eval y = .agg cells)
    (ht : w.there b off cells.size) (hi : (P.info? ty).map (·.size) = some cells.size) (h1 : cells.all (·.oneCell') = true)
    (h : K (a.put o.dst undef) (w.setCells b off cells.toList)) : if Region.wanted o (yielded ops a.tmps) = true then Oper.wp P o a w K Q else E := by
  rw [if_pos (by simp [Region.wanted, hg])]
  exact wp_store_mid ty x y ho b off cells hx hy ht hi h1 h
/-- A round's cells: its key, and the boxes. -/
def rnd (K : List UInt8) (gb : Nat) : Array Value := (K.map uv ++ [Value.slice (some ⟨gb, 0, none⟩) 256 256]).toArray
theorem rnd_box {K : List UInt8} (gb : Nat) (h : K.length = 16) : (rnd K gb)[16]? = some (.slice (some ⟨gb, 0, none⟩) 256 256) := by simp [rnd, h]
theorem rnd_key {K : List UInt8} (gb : Nat) (h : K.length = 16) {i : Nat} (hi : i < 16) : (rnd K gb)[i]? = some (uv (ub K i)) := by
  rw [ub_at (by omega)]
  unfold rnd
  rw [List.getElem?_toArray, List.getElem?_append_left (by rw [List.length_map, h]; exact hi)]
  simp [h, hi]
end Go.Proofs.Ytcecjoodlmpgnaa
