/- The contract of roundKeys: a key's round keys, one behind the other. -/
import Derived.Test.YtodolffolbkaaaaAKeyW
namespace Go.Proofs.Ytodolffolbkaaaa
open Go.RowKit

set_option maxRecDepth 100000 in
set_option maxHeartbeats 4000000 in
theorem roundKeys_any (key : List UInt8) (rounds gb : Nat) (w : World) (hx : Blk w gb 5 bxs) (hk : key.length = 16 ∨ key.length = 32) (hm : key.length / 4 + 7 = rounds) :
    Calls Try.prog 24 #[.string ⟨key.toArray⟩, .slice (some ⟨gb, 0, none⟩) 256 256] w fun e w' => ∃ g, e = .returned (.slice (some ⟨g, 0, none⟩) rounds rounds) ∧ w.heap.size ≤ g ∧ Blk w' g 45 ((keysF key).map uv).toArray ∧ Below w.heap.size w w' := by
  have HKW := Lib.hid (keyWords_any key (key.length / 4) (4 * rounds) gb w hx hk rfl (by omega))
  have HMK := Lib.hid (fun W => make_grids rounds (by omega) W)
  have HN : Hid ((keysF key).length = rounds * 16) := Lib.hid (by rw [keysF_len key hk]; omega)
  have HZ := Lib.hid (zerosL_len (rounds * 16))
  have HO : Hid (rounds ≤ 15) := Lib.hid (by omega)
  have hsz := size_of key
  obtain ⟨l, hl⟩ : ∃ l, key.length = l := ⟨_, rfl⟩
  rw [hl] at hsz hm
  have hq1 : (l : Int) / 4 + 7 = (rounds : Int) := by omega
  have hq2 : (rounds : Int) * 4 = ((4 * rounds : Nat) : Int) := by omega
  have hq3 : (rounds : Int) ≤ 15 := by omega
  have hq4 : (l : Int) ≤ 32 := by omega
  obtain ⟨many, hmany⟩ : ∃ m, 4 * rounds = m := ⟨_, rfl⟩
  rw [hmany] at HKW hq2
  obtain ⟨N, hN⟩ : ∃ N, keysF key = N := ⟨_, rfl⟩
  rw [hN] at HN HKW ⊢
  have H0 : Hid (((zerosL (rounds * 16)).map uv).toArray = ((cutL (0 * 16) N (zerosL (rounds * 16))).map uv).toArray) := Lib.hid (by rw [Nat.zero_mul, cutL_zero])
  obtain ⟨Z, hZ⟩ : ∃ Z, zerosL (rounds * 16) = Z := ⟨_, rfl⟩
  rw [hZ] at HMK HZ H0
  have HMM := Lib.hid hmany
  clear hN hZ hk hx hl hm hmany
  go_enter Try.func24, Try.ntmps24
  go_wp2_with fail
  refine HKW.out.mono ?_
  rintro e w1 ⟨q, rfl, hq, hQ, hb1⟩
  have hmk := HMK.out w1
  have BN := Lib.hid (Blk.new w1 45 (Z.map uv).toArray)
  have HQ := Lib.hid (hQ.alloc (.cells (Z.map uv).toArray 45))
  have hbN := ba hb1 (.cells (Z.map uv).toArray 45)
  have z1 := hb1.size
  have hqlt := hQ.lt
  obtain ⟨p, hp⟩ : ∃ p, w1.heap.size = p := ⟨_, rfl⟩
  rw [hp] at BN z1 hqlt hmk
  generalize w1.alloc (.cells (Z.map uv).toArray 45) = w2 at hmk BN HQ hbN
  rw [H0.out] at BN
  clear hQ hb1 hp HKW H0
  go_wp2_with fail
  go_loopw [22] (fun iv wr => ∃ i : Nat, i ≤ rounds ∧ iv = .int .i64 i ∧ Hid (Blk wr p 45 ((cutL (i * 16) N Z).map uv).toArray) ∧ Hid (Blk wr q 43 (N.map uv).toArray) ∧ Below w.heap.size w wr) (fun iv _ => rounds - (intOf iv).toNat)
  case atStart => exact ⟨0, Nat.zero_le _, rfl, BN, HQ, hbN⟩
  case round =>
    clear BN HQ hbN hmk
    obtain ⟨i, hi, rfl, B, Q, hb⟩ := hrel
    by_cases hlt : i < rounds
    · have hir : (i : Int) < (rounds : Int) := by omega
      have i0 : (0 : Int) ≤ (i : Int) := by omega
      obtain ⟨s, hs⟩ : ∃ s : Nat, i * 4 = s := ⟨_, rfl⟩
      have his : (i : Int) * 4 = (s : Int) := by omega
      have hsm : (s : Int) ≤ (many : Int) := by have := HMM.out; omega
      have s0 : (0 : Int) ≤ (s : Int) := by omega
      have HWS : Hid (IntKind.i64.wrap (s : Int) = (s : Int)) := Lib.hid (by rw [IntKind.wrap_i64]; have := HMM.out; omega)
      obtain ⟨m, hm⟩ : ∃ m : Nat, many - s = m := ⟨_, rfl⟩
      have hms : (many : Int) - (s : Int) = (m : Int) := by omega
      have HCP := Lib.hid (copy_words wr.drew p (i * 16) q (s * 4) m m N _ _ _ B.out.drew Q.out.drew (by have := HMM.out; omega) (by rw [HN.out]; omega) (by rw [uvs_size, cutL_len HN.out HZ.out (by omega)]; omega))
      have hs16 : s * 4 = i * 16 := by omega
      rw [hs16, cut_copy HN.out HZ.out (by omega)] at HCP
      have HB2 := Lib.hid (B.out.drew.setRow ((cutL (i * 16 + 16) N Z).map uv).toArray)
      have HQ2 := Lib.hid (Q.out.drew.setRow_far (g := p) (by omega) ((cutL (i * 16 + 16) N Z).map uv).toArray)
      have hb2 := below_setRow hb.drew (g := p) (by omega) ((cutL (i * 16 + 16) N Z).map uv).toArray
      have hq16 : i * 16 + 16 = (i + 1) * 16 := by omega
      rw [hq16] at HCP HB2 HQ2 hb2
      have HS16 := Lib.hid hs16
      have hne : ¬ many = s := by have := HMM.out; omega
      go_wp2_with fail
      refine wp_region_held_drew (S := fun _ => True) (by kernel_rfl) trivial (fun hHeld => ?_)
      refine wpAnyH_take (i := 0) (oi := ⟨some 25, _, _, _, _, _⟩) (v := ?_) rfl (by kernel_rfl) (by kernel_rfl) (by kernel_rfl) (fun _ _ _ h => h) (Or.inl ⟨by rfl, ?_⟩) (by assumption) ?_
      rotate_left
      · (intro w9 hSw; (try dsimp only at hSw); go_simp; try with_reducible rfl)
      try simp only [Act.put, List.setIfInBounds_toArray, List.set_cons_zero, List.set_cons_succ]
      refine wpAnyH_take (i := 1) (oi := ⟨some 26, _, _, _, _, _⟩) (v := ?_) rfl (by kernel_rfl) (by kernel_rfl) (by kernel_rfl) (fun _ _ _ h => h) (Or.inl ⟨by rfl, ?_⟩) (by assumption) ?_
      rotate_left
      · (intro w9 hSw; (try dsimp only at hSw); go_simp; try with_reducible rfl)
      try simp only [Act.put, List.setIfInBounds_toArray, List.set_cons_zero, List.set_cons_succ]
      refine wpAnyH_take (i := 2) (oi := ⟨some 27, _, _, _, _, _⟩) (v := .pointer (some ⟨p, i * 16, none⟩)) rfl (by kernel_rfl) (by kernel_rfl) (by kernel_rfl) (fun _ _ _ h => h) (Or.inl ⟨by rfl, ?_⟩) (by assumption) ?_
      · (intro w9 hSw; (try dsimp only at hSw); go_simp)
      try simp only [Act.put, List.setIfInBounds_toArray, List.set_cons_zero, List.set_cons_succ]
      refine wpAnyH_take (i := 3) (oi := ⟨some 28, _, _, _, _, _⟩) (v := .slice (some ⟨p, i * 16, none⟩) 4 4) rfl (by kernel_rfl) (by kernel_rfl) (by kernel_rfl) (fun _ _ _ h => h) (Or.inl ⟨by rfl, ?_⟩) (by assumption) ?_
      · (intro w9 hSw; (try dsimp only at hSw); go_simp)
      try simp only [Act.put, List.setIfInBounds_toArray, List.set_cons_zero, List.set_cons_succ]
      refine wpAnyH_take (i := 4) (oi := ⟨some 29, _, _, _, _, _⟩) (v := ?_) rfl (by kernel_rfl) (by kernel_rfl) (by kernel_rfl) (fun _ _ _ h => h) (Or.inl ⟨by rfl, ?_⟩) (by assumption) ?_
      rotate_left
      · (intro w9 hSw; (try dsimp only at hSw); go_simp; try with_reducible rfl)
      try simp only [Act.put, List.setIfInBounds_toArray, List.set_cons_zero, List.set_cons_succ]
      refine wpAnyH_take (i := 5) (oi := ⟨some 30, _, _, _, _, _⟩) (v := ?_) rfl (by kernel_rfl) (by kernel_rfl) (by kernel_rfl) (fun _ _ _ h => h) (Or.inl ⟨by rfl, ?_⟩) (by assumption) ?_
      rotate_left
      · (intro w9 hSw; (try dsimp only at hSw); go_simp; try with_reducible rfl)
      try simp only [Act.put, List.setIfInBounds_toArray, List.set_cons_zero, List.set_cons_succ]
      refine wpAnyH_take (i := 6) (oi := ⟨some 31, _, _, _, _, _⟩) (v := .int .i64 (s : Int)) rfl (by kernel_rfl) (by kernel_rfl) (by kernel_rfl) (fun _ _ _ h => h) (Or.inl ⟨by rfl, ?_⟩) (by assumption) ?_
      · (intro w9 hSw; (try dsimp only at hSw); go_simp; (try rw [his]); rw [HWS.out])
      try simp only [Act.put, List.setIfInBounds_toArray, List.set_cons_zero, List.set_cons_succ]
      refine wpAnyH_take (i := 7) (oi := ⟨some 32, _, _, _, _, _⟩) (v := .slice (some ⟨q, i * 16, none⟩) m m) rfl (by kernel_rfl) (by kernel_rfl) (by kernel_rfl) (fun _ _ _ h => h) (Or.inl ⟨by rfl, ?_⟩) (by assumption) ?_
      · (intro w9 hSw; (try dsimp only at hSw); go_simp; (try rw [HS16.out]))
      try simp only [Act.put, List.setIfInBounds_toArray, List.set_cons_zero, List.set_cons_succ]
      refine wpAnyH_ready (rs := [8]) (by kernel_rfl) (by simp) ?_
      refine AllReadyH.cons (o := ⟨some 33, _, _, _, _, _⟩) rfl (fun K9 hK9 => ?_) AllReadyH.nil
      have hcp := HCP.out
      go_simp
      refine hK9.out _ _ ?_ (fun hHeld => ?_)
      · trivial
      clear hK9 K9
      try simp only [Act.put, List.setIfInBounds_toArray, List.set_cons_zero, List.set_cons_succ]
      refine wpAnyH_done (by kernel_rfl) ?_ _
      go_wp2_with fail
      exact ⟨⟨i + 1, by omega, by go_num, HB2, HQ2, hb2⟩, by simp [intOf]; omega⟩
    · obtain rfl : i = rounds := by omega
      have hB := B.out
      rw [cutL_all HN.out HZ.out] at hB
      have HBN := Lib.hid hB
      clear hB B
      go_wp2_with fail
      go_ret
      exact ⟨_, rfl, z1, HBN.out, hb⟩
end Go.Proofs.Ytodolffolbkaaaa
