/- The contract of Keys. -/
import Derived.Test.YtodolffolbkaaaaAEncr
namespace Go.Proofs.Ytodolffolbkaaaa
open Go.RowKit

theorem own_mono {W : World} {base b : Nat} {e : TypeId} {size : Nat} {v : Value} {n : Nat} {xs : List Value} (h : W.ownsRow base e size v n xs) (hb : b ≤ base) : W.ownsRow b e size v n xs := by
  obtain ⟨h1, h2⟩ := h
  refine ⟨h1, ?_⟩
  rcases h2 with h2 | ⟨g, cap, cur, hv, hg, r⟩
  · exact Or.inl h2
  · exact Or.inr ⟨g, cap, cur, hv, Nat.le_trans hb hg, r⟩
/-- A key's round keys. -/
def keysL (key : List UInt8) : List (List UInt8) := (List.range (key.length / 4 + 7)).map (keyAt (keysF key))
theorem keysL_len (key : List UInt8) : (keysL key).length = key.length / 4 + 7 := by simp [keysL]
theorem keysL_take (key : List UInt8) (k : Nat) (h : k < key.length / 4 + 7) : (keysL key).take (k + 1) = (keysL key).take k ++ [keyAt (keysF key) k] := by
  rw [List.take_succ_eq_append_getElem (by rw [keysL_len]; exact h)]
  congr 2
  simp [keysL]

set_option maxRecDepth 100000 in
set_option maxHeartbeats 1000000 in
theorem keys_no (key : List UInt8) (w : World) (hk : ¬ (key.length = 16 ∨ key.length = 32)) :
    Calls Try.prog 9 #[.string ⟨key.toArray⟩] w fun e w' => e = .returned (.tuple #[.slice none 0 0, .int .i64 4]) ∧ Below w.heap.size w w' := by
  have H1 := Lib.hid (isKey_no key w hk)
  clear hk
  go_enter Try.func9, Try.ntmps9
  go_wp2_with fail
  refine H1.out.mono ?_
  rintro e w0 ⟨rfl, rfl⟩
  go_wp2_with fail
  go_ret2
  exact ⟨rfl, Below.refl _ _⟩

set_option maxRecDepth 100000 in
set_option maxHeartbeats 4000000 in
theorem keys_yes (key : List UInt8) (w : World) (hk : key.length = 16 ∨ key.length = 32) :
    Calls Try.prog 9 #[.string ⟨key.toArray⟩] w fun e w' => ∃ g c, e = .returned (.tuple #[.slice (some ⟨g, 0, none⟩) (key.length / 4 + 7) c, .int .i64 0]) ∧ w'.ownsRow w.heap.size 9 1 (.slice (some ⟨g, 0, none⟩) (key.length / 4 + 7) c) (key.length / 4 + 7) ((keysL key).map sv) ∧ Below w.heap.size w w' := by
  obtain ⟨i0, hi, hz0, hz1, hz2⟩ := info_parts infoS
  have H1 := Lib.hid (isKey_yes key w hk)
  have H3 := Lib.hid (boxes_any w)
  have H5 := Lib.hid (fun gb W hx => roundKeys_any key (key.length / 4 + 7) gb W hx hk rfl)
  have HF : Hid ((keysF key).length = (key.length / 4 + 7) * 16) := Lib.hid (by rw [keysF_len key hk, Nat.mul_comm])
  have HT := Lib.hid (keysL_take key)
  have HLL := Lib.hid (keysL_len key)
  have hr15 : key.length / 4 + 7 ≤ 15 := by omega
  obtain ⟨n, hn⟩ : ∃ n, key.length / 4 + 7 = n := ⟨_, rfl⟩
  rw [hn] at H5 HF HT HLL hr15 ⊢
  obtain ⟨F, hF⟩ : ∃ F, keysF key = F := ⟨_, rfl⟩
  rw [hF] at H5 HF HT
  obtain ⟨L, hL⟩ : ∃ L, keysL key = L := ⟨_, rfl⟩
  rw [hL] at HT HLL ⊢
  obtain ⟨Z, hZ, hmk⟩ := make_strs n (by omega)
  have HZ := Lib.hid hZ
  have hn15 : (n : Int) ≤ 15 := by omega
  clear hk hn hF hL hZ
  go_enter Try.func9, Try.ntmps9
  go_wp2_with fail
  refine H1.out.mono ?_
  rintro e w0 ⟨rfl, rfl⟩
  go_wp2_with fail
  refine H3.out.mono ?_
  rintro e w1 ⟨gb, rfl, hg, hB, hb1⟩
  have HB := Lib.hid hB
  clear hB
  go_wp2_with fail
  refine (H5.out _ _ HB.out).mono ?_
  rintro e w3 ⟨gk, rfl, hgk, hK, hb3⟩
  have HK := Lib.hid hK
  have hB3 := bt hb1 hb3
  have z3 := hB3.size
  clear hb3 hb1 HB hK
  have HO0 : Hid ((w3.alloc (.cells Z 9)).ownsRow w3.heap.size 9 1 (.slice (some ⟨w3.heap.size, 0, none⟩) 0 n) 0 ((L.take 0).map sv)) := Lib.hid ⟨rfl, .inr ⟨_, n, Z, rfl, Nat.le_refl _, heap_alloc_new w3 _, Nat.zero_le _, by unfold maxLen; omega, by rw [HZ.out, Nat.mul_one], rfl⟩⟩
  have HK0 := Lib.hid (HK.out.alloc (.cells Z 9))
  have hb0 := ba hB3 (.cells Z 9)
  have hgk2 : gk < w3.heap.size := HK.out.lt
  go_wp2_with fail
  go_loopw [5, 19] (fun ov iv wr => ∃ k g d : Nat, k ≤ n ∧ iv = .int .i64 k ∧ ov = .slice (some ⟨g, 0, none⟩) k d ∧ Hid (wr.ownsRow w3.heap.size 9 1 (.slice (some ⟨g, 0, none⟩) k d) k ((L.take k).map sv)) ∧ Hid (Blk wr gk 45 (F.map uv).toArray) ∧ Below w.heap.size w wr ∧ w3.heap.size ≤ wr.heap.size) (fun _ iv _ => n - (intOf iv).toNat)
  case atStart => exact ⟨0, _, _, Nat.zero_le _, rfl, rfl, HO0, HK0, hb0, by simp⟩
  case round =>
    clear HO0 HK0 hb0
    obtain ⟨k, g, d, hk, rfl, rfl, HO, HK1, hb, hz⟩ := hrel
    by_cases hlt : k < n
    · have hki : (k : Int) < (n : Int) := by omega
      have k0 : (0 : Int) ≤ (k : Int) := by omega
      have HTK := Lib.hid (HT.out k hlt)
      have HRG := Lib.hid (key_range HK1.out HF.out hlt)
      have HKL := Lib.hid (keyAt_len F k)
      have HTO := Lib.hid (fun W => told_any (keyAt F k) W (keyAt_len F k))
      generalize keyAt F k = K at HTK HRG HKL HTO
      have HNB := Lib.hid (Blk.new wr 45 #[.int .u8 0, .int .u8 0, .int .u8 0, .int .u8 0, .int .u8 0, .int .u8 0, .int .u8 0, .int .u8 0, .int .u8 0, .int .u8 0, .int .u8 0, .int .u8 0, .int .u8 0, .int .u8 0, .int .u8 0, .int .u8 0])
      have HNT : Hid ((wr.alloc (.cells #[.int .u8 0, .int .u8 0, .int .u8 0, .int .u8 0, .int .u8 0, .int .u8 0, .int .u8 0, .int .u8 0, .int .u8 0, .int .u8 0, .int .u8 0, .int .u8 0, .int .u8 0, .int .u8 0, .int .u8 0, .int .u8 0] 45)).there wr.heap.size 0 (K.map uv).toArray.size) := Lib.hid (HNB.out.there (by rw [uvs_size, HKL.out]; exact Nat.le_refl 16))
      have KNB : Hid (Blk ((wr.alloc (.cells #[.int .u8 0, .int .u8 0, .int .u8 0, .int .u8 0, .int .u8 0, .int .u8 0, .int .u8 0, .int .u8 0, .int .u8 0, .int .u8 0, .int .u8 0, .int .u8 0, .int .u8 0, .int .u8 0, .int .u8 0, .int .u8 0] 45)).setCells wr.heap.size 0 (K.map uv)) wr.heap.size 45 (K.map uv).toArray) := Lib.hid (HNB.out.whole (K.map uv) (by rw [List.length_map, HKL.out]; rfl))
      have hbz : Below wr.heap.size wr ((wr.alloc (.cells #[.int .u8 0, .int .u8 0, .int .u8 0, .int .u8 0, .int .u8 0, .int .u8 0, .int .u8 0, .int .u8 0, .int .u8 0, .int .u8 0, .int .u8 0, .int .u8 0, .int .u8 0, .int .u8 0, .int .u8 0, .int .u8 0] 45)).setCells wr.heap.size 0 (K.map uv)) := bw (ba (Below.refl _ _) _) (Nat.le_refl _) _ _
      go_upto_region 8 with (first | (refine wpList_load_mid rfl _ _ rfl gk (k * 16) rfl (K.map uv) _ HRG.out Try.underlying45 rfl (by rw [List.length_map, HKL.out]; kernel_rfl) ?_) | (refine wpList_store_mid rfl _ _ _ rfl wr.heap.size 0 (K.map uv).toArray rfl rfl HNT.out (glen HKL.out) (all_oneCell_toArray (uvs_one K)) ?_))
      generalize (wr.alloc (.cells #[.int .u8 0, .int .u8 0, .int .u8 0, .int .u8 0, .int .u8 0, .int .u8 0, .int .u8 0, .int .u8 0, .int .u8 0, .int .u8 0, .int .u8 0, .int .u8 0, .int .u8 0, .int .u8 0, .int .u8 0, .int .u8 0] 45)).setCells wr.heap.size 0 (K.map uv) = w4 at KNB hbz
      obtain ⟨p, hp⟩ : ∃ p, wr.heap.size = p := ⟨_, rfl⟩
      have HO4 := Lib.hid (own_later HO.out hbz)
      have HK4 := Lib.hid (HK1.out.below hbz)
      have hb4 := bt hb hbz
      have hz4 : w3.heap.size ≤ w4.heap.size := Nat.le_trans hz hbz.size
      rw [hp] at KNB ⊢
      clear HNB HNT hp HO HK1 hb hz hbz HRG
      go_wp2_with (refine wpList_load_row rfl _ _ rfl _ rfl _ _ _ _ KNB.out Try.underlying45 rfl (glen HKL.out) ?_)
      refine (HTO.out _).mono ?_
      rintro e w5 ⟨rfl, hb5⟩
      have HO5 := Lib.hid (own_later HO4.out hb5)
      have HK5 := Lib.hid ((HK4.out.below hb5).alloc (.cells #[sv K] 9))
      have hB5 := bt hb4 hb5
      have hz5 : w3.heap.size ≤ w5.heap.size := Nat.le_trans hz4 hb5.size
      have hnews := news_new w5 [sv K] 9
      clear HO4 HK4 hb4 hz4 hb5 KNB
      go_wp2_with (at_builtin; refine wpList_append_own _ rfl _ _ 23 rfl w3.heap.size 9 i0 (.string ⟨#[]⟩) 1 16 Try.underlying23 hi hz0 hz1 hz2 rfl (by decide) _ _ _ rfl (own_alloc HO5.out _) ⟨w5.heap.size, 0, none⟩ 1 1 [sv K] rfl rfl hnews (by simp [Value.oneCell']) (by unfold maxLen; omega) (by omega) (by simp; omega) ?_; intro v' w6 hown' hgrow _; obtain ⟨g1, c1, rfl⟩ := ownsRow_succ hown'; have HO6 := Lib.hid hown'; have hb6 : Below w.heap.size w w6 := (hB5.alloc hB5.size _).grown hgrow (by have := hB5.size; simp; omega) (fun r e => by cases e; have := (HO5.out.lt _ rfl).1; omega); have HK6 := Lib.hid (HK5.out.grown hgrow (fun e => by cases e; have := (HO5.out.lt _ rfl).1; omega)); have hz6 : w3.heap.size ≤ w6.heap.size := Nat.le_trans (by simp; omega) hgrow.size; clear hown' hnews hgrow)
      exact ⟨⟨k + 1, g1, c1, by omega, by go_num, rfl, Lib.hid (by rw [HTK.out, List.map_append]; exact HO6.out), HK6, hb6, hz6⟩, by simp [intOf]; omega⟩
    · obtain rfl : k = n := by omega
      have HOF := Lib.hid (own_mono HO.out z3)
      rw [List.take_of_length_le (Nat.le_of_eq HLL.out)] at HOF
      clear HO
      go_wp2_with fail
      go_ret2
      exact ⟨g, d, rfl, HOF.out, hb⟩
end Go.Proofs.Ytodolffolbkaaaa
