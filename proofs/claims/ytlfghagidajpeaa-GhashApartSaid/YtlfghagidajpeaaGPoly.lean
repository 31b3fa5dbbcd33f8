/- The contract of polynomialOf. -/
import Derived.Test.YtlfghagidajpeaaGWord
namespace Go.Proofs.Ytlfghagidajpeaa
open Go.RowKit

theorem pol_zero : (Pol (bn (([] : List UInt8).take 0))) = #[qv 0, qv 0] := by
  have h : bn [] = 0 := by decide +kernel
  rw [List.take_nil, h]
  have h0 : w0 0 = 0 := by decide +kernel
  have h1 : w1 0 = 0 := by decide +kernel
  unfold Pol
  rw [h0, h1]
theorem pol_at (N : Nat) {j : Nat} (h : j < 2) : (Pol N)[j]? = some (qv (wi N j)) := by
  obtain rfl | rfl : j = 0 ∨ j = 1 := by omega
  · rfl
  · rfl
/-- A word with a byte more. -/
def orB (L : List UInt8) (k : Nat) : Nat := wi (bn (L.take k)) (k / 8) ||| (ub L k).toNat * 2 ^ (56 - k % 8 * 8)
theorem pol_set (L : List UInt8) {k : Nat} (h : k < 16) : (Pol (bn (L.take k))).setIfInBounds (k / 8) (qv (orB L k)) = Pol (bn (L.take (k + 1))) := by
  unfold orB wi
  by_cases h8 : k < 8
  · rw [if_pos (by omega), ← w0_more L h8, show k / 8 = 0 by omega]
    unfold Pol
    rw [w1_same L h8]
    rfl
  · rw [if_neg (by omega), ← w1_more L (by omega) h, show k / 8 = 1 by omega]
    unfold Pol
    rw [w0_same L (by omega)]
    rfl
theorem orB_is (L : List UInt8) (k : Nat) : bits .or .u64 ((wi (bn (L.take k)) (k / 8) : Nat) : Int) (((ub L k).toNat * 2 ^ (56 - k % 8 * 8) : Nat) : Int) = ((orB L k : Nat) : Int) :=
  u64_or_nat _ _ (wi_lt _ _) (byte_lt _ (by omega))
theorem shl_byte (b : UInt8) {s : Nat} (h : s ≤ 56) : IntKind.u64.wrap ((b.toNat : Int) * 2 ^ s) = ((b.toNat * 2 ^ s : Nat) : Int) := by
  have h1 : b.toNat * 2 ^ s < 18446744073709551616 := byte_lt b h
  have h2 : (b.toNat : Int) * 2 ^ s = ((b.toNat * 2 ^ s : Nat) : Int) := by simp
  rw [IntKind.wrap_u64, h2]
  omega
theorem gindex_of (l : List UInt8) (i : Nat) (k : Int) (hk : (i : Int) = k) (h : i < l.length) (W : World) : (Instr.index 9 (.string ⟨l.toArray⟩) (.int .i64 k)).run Try.prog W = .ok (uv (ub l i)) W :=
  index_is _ i k (ub l i) hk (at_get l i h) W

set_option maxRecDepth 100000 in
set_option maxHeartbeats 2000000 in
theorem polynomialOf_any (L : List UInt8) (n : Nat) (w : World) (hL : L.length = n) (hn : n ≤ 16) :
    Calls Try.prog 18 #[.string ⟨L.toArray⟩] w fun e w' => e = .returned (.agg (Pol (bn L))) ∧ Below w.heap.size w w' := by
  have HI := Lib.hid (gindex_of L)
  have HL := Lib.hid hL
  have hs := size_of L
  rw [hL] at hs HI
  have HZ : Hid (#[qv 0, qv 0] = Pol (bn (L.take 0))) := Lib.hid (by rw [List.take_zero, ← pol_zero, List.take_nil])
  have HN : Hid (L.take n = L) := Lib.hid (List.take_of_length_le (by omega))
  have HAT := Lib.hid (fun (k : Nat) (hk : k < 16) => pol_at (bn (L.take k)) (j := k / 8) (by omega))
  have HSET := Lib.hid (fun (k : Nat) (hk : k < 16) => pol_set L hk)
  have HOR := Lib.hid (fun (k : Nat) (_ : k < 16) => orB_is L k)
  clear hL
  go_enter Try.func18, Try.ntmps18
  go_wp2_with fail
  go_loopw [7] (fun iv wr => ∃ k : Nat, k ≤ n ∧ iv = .int .i64 k ∧ Hid (Blk wr w.heap.size 40 #[qv 0, qv 0]) ∧ Hid (Blk wr (w.heap.size + 1) 40 (Pol (bn (L.take k)))) ∧ Below w.heap.size w wr) (fun iv _ => n - (intOf iv).toNat)
  case atStart =>
    refine ⟨0, Nat.zero_le _, rfl, Lib.hid ?_, Lib.hid ?_, ba (ba (Below.refl _ _) _) _⟩
    · exact (Blk.new w _ _).alloc _
    · rw [← HZ.out]; exact Blk.newAt (by simp) _ _
  case round =>
    obtain ⟨k, hk, rfl, Z, P, hb⟩ := hrel
    by_cases hlt : k < n
    · have hki : (k : Int) < (n : Int) := by omega
      have hk16 : k < 16 := by omega
      have HX := Lib.hid (HI.out k k rfl hlt)
      have HC := Lib.hid ((P.out.cell (k / 8)).trans (HAT.out k hk16))
      have hf := P.out.frozen (k / 8)
      have HS := Lib.hid (fun W => shiftOf_any k W hk16)
      have HO := Lib.hid (HOR.out k hk16)
      have hP2 := (P.out.set_ (k / 8) (qv (orB L k)))
      rw [HSET.out k hk16] at hP2
      have HP2 := Lib.hid hP2
      have HB := Lib.hid (byte_lt (ub L k) (s := 56 - k % 8 * 8) (by omega))
      generalize wi (bn (L.take k)) (k / 8) = x at HC HO
      generalize ub L k = b at HX HO HB
      obtain ⟨s, hs56⟩ : ∃ s, 56 - k % 8 * 8 = s := ⟨_, rfl⟩
      have hsl : s ≤ 56 := by omega
      rw [hs56] at HS HO HB
      obtain ⟨j, hj⟩ : ∃ j, k / 8 = j := ⟨_, rfl⟩
      have hj2 : j < 2 := by omega
      have hji : (k : Int) / 8 = (j : Int) := by omega
      rw [hj] at HC hf HP2
      generalize orB L k = y at HO HP2
      have hsh := shl_byte b hsl
      obtain ⟨v, hv⟩ : ∃ v, b.toNat * 2 ^ s = v := ⟨_, rfl⟩
      rw [hv] at hsh HO
      have HSH := Lib.hid hsh
      clear hv hsh HB
      clear hP2 hs56 hj
      go_wp2_with fail
      have hc1 : wr.drew.cell? ⟨w.heap.size + 1, j, none⟩ = some (qv x) := HC.out
      have hf1 : wr.drew.frozen? ⟨w.heap.size + 1, j, none⟩ = false := hf
      have P2 := HP2.out.drew
      have Z2 := (Z.out.far (p := ⟨w.heap.size + 1, j, none⟩) (by simp) (qv y)).drew
      have hb2 := (bs hb (b := w.heap.size + 1) (o := j) (by omega) (qv y)).drew
      have HPZ : Hid (Blk ((wr.setCell ⟨w.heap.size + 1, j, none⟩ (qv y)).drew) (w.heap.size + 1) 40 (Pol (bn (L.take (k + 1)))) ∧ Blk ((wr.setCell ⟨w.heap.size + 1, j, none⟩ (qv y)).drew) w.heap.size 40 #[qv 0, qv 0] ∧ Below w.heap.size w ((wr.setCell ⟨w.heap.size + 1, j, none⟩ (qv y)).drew)) := Lib.hid ⟨P2, Z2, hb2⟩
      have HJW : Hid (IntKind.i64.wrap (j : Int) = (j : Int)) := Lib.hid (by have h64 := IntKind.wrap_i64; rw [h64]; omega)
      have HBW : Hid (IntKind.u64.wrap (b.toNat : Int) = (b.toNat : Int)) := Lib.hid (by have := b.toNat_lt; rw [IntKind.wrap_u64]; omega)
      have hsi : ((s : Nat) : Int) < 64 := by omega
      clear hf P2 Z2 hb2 HP2 hb
      refine wp_region_held_drew (S := fun _ => True) (by kernel_rfl) trivial (fun hHeld => ?_)
      refine wpAnyH_take (i := 0) (oi := ⟨some 10, _, _, _, _, _⟩) (v := ?_) rfl (by kernel_rfl) (by kernel_rfl) (by kernel_rfl) (fun _ _ _ h => h) (Or.inl ⟨by rfl, ?_⟩) (by assumption) ?_
      rotate_left
      · (intro w9 hSw; (try dsimp only at hSw); go_simp; try with_reducible rfl)
      try simp only [Act.put, List.setIfInBounds_toArray, List.set_cons_zero, List.set_cons_succ]
      refine wpAnyH_take (i := 1) (oi := ⟨some 11, _, _, _, _, _⟩) (v := .int .i64 (j : Int)) rfl (by kernel_rfl) (by kernel_rfl) (by kernel_rfl) (fun _ _ _ h => h) (Or.inl ⟨by rfl, ?_⟩) (by assumption) ?_
      · (intro w9 hSw; (try dsimp only at hSw); go_simp; rw [HJW.out])
      try simp only [Act.put, List.setIfInBounds_toArray, List.set_cons_zero, List.set_cons_succ]
      refine wpAnyH_take (i := 2) (oi := ⟨some 12, _, _, _, _, _⟩) (v := .pointer (some ⟨w.heap.size + 1, j, none⟩)) rfl (by kernel_rfl) (by kernel_rfl) (by kernel_rfl) (fun _ _ _ h => h) (Or.inl ⟨by rfl, ?_⟩) (by assumption) ?_
      · (intro w9 hSw; (try dsimp only at hSw); go_simp; (try (intro h9; exact absurd h9 (by omega))))
      try simp only [Act.put, List.setIfInBounds_toArray, List.set_cons_zero, List.set_cons_succ]
      refine wpAnyH_take (i := 4) (oi := ⟨some 14, _, _, _, _, _⟩) (v := ?_) rfl (by kernel_rfl) (by kernel_rfl) (by kernel_rfl) (fun _ _ _ h => h) (Or.inl ⟨by rfl, ?_⟩) (by assumption) ?_
      rotate_left
      · (intro w9 hSw; (try dsimp only at hSw); go_simp; try with_reducible rfl)
      try simp only [Act.put, List.setIfInBounds_toArray, List.set_cons_zero, List.set_cons_succ]
      refine wpAnyH_take (i := 5) (oi := ⟨some 15, _, _, _, _, _⟩) (v := ?_) rfl (by kernel_rfl) (by kernel_rfl) (by kernel_rfl) (fun _ _ _ h => h) (Or.inl ⟨by rfl, ?_⟩) (by assumption) ?_
      rotate_left
      · (intro w9 hSw; (try dsimp only at hSw); go_simp; try with_reducible rfl)
      try simp only [Act.put, List.setIfInBounds_toArray, List.set_cons_zero, List.set_cons_succ]
      refine wpAnyH_take (i := 6) (oi := ⟨some 16, _, _, _, _, _⟩) (v := uv b) rfl (by kernel_rfl) (by kernel_rfl) (by kernel_rfl) (fun _ _ _ h => h) (Or.inl ⟨by rfl, ?_⟩) (by assumption) ?_
      · (intro w9 hSw; have hx := HX.out w9; (try dsimp only at hSw); go_simp)
      try simp only [Act.put, List.setIfInBounds_toArray, List.set_cons_zero, List.set_cons_succ]
      refine wpAnyH_take (i := 7) (oi := ⟨some 17, _, _, _, _, _⟩) (v := qv b.toNat) rfl (by kernel_rfl) (by kernel_rfl) (by kernel_rfl) (fun _ _ _ h => h) (Or.inl ⟨by rfl, ?_⟩) (by assumption) ?_
      · (intro w9 hSw; (try dsimp only at hSw); go_simp; rw [HBW.out])
      try simp only [Act.put, List.setIfInBounds_toArray, List.set_cons_zero, List.set_cons_succ]
      refine wpAnyH_take (i := 8) (oi := ⟨some 18, _, _, _, _, _⟩) (v := ?_) rfl (by kernel_rfl) (by kernel_rfl) (by kernel_rfl) (fun _ _ _ h => h) (Or.inl ⟨by rfl, ?_⟩) (by assumption) ?_
      rotate_left
      · (intro w9 hSw; (try dsimp only at hSw); go_simp; try with_reducible rfl)
      try simp only [Act.put, List.setIfInBounds_toArray, List.set_cons_zero, List.set_cons_succ]
      refine wpAnyH_ready (rs := [3, 9]) (by kernel_rfl) (by simp) ?_
      refine AllReadyH.cons (o := ⟨some 13, _, _, _, _, _⟩) rfl (fun K9 hK9 => ?_) ?_
      · skip
        go_simp
        refine hK9.out _ _ ?_ (fun hHeld => ?_)
        · trivial
        clear hK9 K9
        try simp only [Act.put, List.setIfInBounds_toArray, List.set_cons_zero, List.set_cons_succ]
        refine wpAnyH_ready (rs := [9]) (by kernel_rfl) (by simp) ?_
        refine AllReadyH.cons (o := ⟨some 19, _, _, _, _, _⟩) rfl (fun K9 hK9 => ?_) AllReadyH.nil
        go_simp
        go_at_call 29
        refine (HS.out _).mono ?_
        rintro e w2 ⟨rfl, rfl⟩
        refine hK9.out _ _ ?_ (fun hHeld => ?_)
        · trivial
        clear hK9 K9
        try simp only [Act.put, List.setIfInBounds_toArray, List.set_cons_zero, List.set_cons_succ]
        refine wpAnyH_take (i := 10) (oi := ⟨some 20, _, _, _, _, _⟩) (v := qv v) rfl (by kernel_rfl) (by kernel_rfl) (by kernel_rfl) (fun _ _ _ h => h) (Or.inl ⟨by rfl, ?_⟩) (by assumption) ?_
        · (intro w9 hSw; (try dsimp only at hSw); go_simp; rw [HSH.out])
        try simp only [Act.put, List.setIfInBounds_toArray, List.set_cons_zero, List.set_cons_succ]
        refine wpAnyH_take (i := 11) (oi := ⟨some 21, _, _, _, _, _⟩) (v := qv y) rfl (by kernel_rfl) (by kernel_rfl) (by kernel_rfl) (fun _ _ _ h => h) (Or.inl ⟨by rfl, ?_⟩) (by assumption) ?_
        · (intro w9 hSw; have ho := HO.out; (try dsimp only at hSw); go_simp)
        try simp only [Act.put, List.setIfInBounds_toArray, List.set_cons_zero, List.set_cons_succ]
        refine wpAnyH_take (i := 12) (oi := ⟨some 22, _, _, _, _, _⟩) (v := .pointer (some ⟨w.heap.size + 1, j, none⟩)) rfl (by kernel_rfl) (by kernel_rfl) (by kernel_rfl) (fun _ _ _ h => h) (Or.inl ⟨by rfl, ?_⟩) (by assumption) ?_
        · (intro w9 hSw; (try dsimp only at hSw); go_simp; (try (intro h9; exact absurd h9 (by omega))))
        try simp only [Act.put, List.setIfInBounds_toArray, List.set_cons_zero, List.set_cons_succ]
        refine wpAnyH_ready (rs := [13]) (by kernel_rfl) (by simp) ?_
        refine AllReadyH.cons (o := ⟨none, _, _, _, _, _⟩) rfl (fun K9 hK9 => ?_) AllReadyH.nil
        go_simp
        refine hK9.out _ _ ?_ (fun hHeld => ?_)
        · trivial
        clear hK9 K9
        try simp only [Act.put]
        refine wpAnyH_done (by kernel_rfl) ?_ _
        obtain ⟨P3, Z3, hb3⟩ := HPZ.out
        generalize (wr.setCell ⟨w.heap.size + 1, j, none⟩ (qv y)).drew = w3 at P3 Z3 hb3
        clear hHeld hc1 hf1 HPZ P Z
        go_wp2_with fail
        exact ⟨⟨k + 1, by omega, by go_num, Lib.hid Z3, Lib.hid P3, hb3⟩, by simp [intOf]; omega⟩
      refine AllReadyH.cons (o := ⟨some 19, _, _, _, _, _⟩) rfl (fun K9 hK9 => ?_) AllReadyH.nil
      · skip
        go_simp
        go_at_call 29
        refine (HS.out _).mono ?_
        rintro e w2 ⟨rfl, rfl⟩
        refine hK9.out _ _ ?_ (fun hHeld => ?_)
        · trivial
        clear hK9 K9
        try simp only [Act.put, List.setIfInBounds_toArray, List.set_cons_zero, List.set_cons_succ]
        refine wpAnyH_take (i := 10) (oi := ⟨some 20, _, _, _, _, _⟩) (v := qv v) rfl (by kernel_rfl) (by kernel_rfl) (by kernel_rfl) (fun _ _ _ h => h) (Or.inl ⟨by rfl, ?_⟩) (by assumption) ?_
        · (intro w9 hSw; (try dsimp only at hSw); go_simp; rw [HSH.out])
        try simp only [Act.put, List.setIfInBounds_toArray, List.set_cons_zero, List.set_cons_succ]
        refine wpAnyH_ready (rs := [3]) (by kernel_rfl) (by simp) ?_
        refine AllReadyH.cons (o := ⟨some 13, _, _, _, _, _⟩) rfl (fun K9 hK9 => ?_) AllReadyH.nil
        go_simp
        refine hK9.out _ _ ?_ (fun hHeld => ?_)
        · trivial
        clear hK9 K9
        try simp only [Act.put, List.setIfInBounds_toArray, List.set_cons_zero, List.set_cons_succ]
        refine wpAnyH_take (i := 11) (oi := ⟨some 21, _, _, _, _, _⟩) (v := qv y) rfl (by kernel_rfl) (by kernel_rfl) (by kernel_rfl) (fun _ _ _ h => h) (Or.inl ⟨by rfl, ?_⟩) (by assumption) ?_
        · (intro w9 hSw; have ho := HO.out; (try dsimp only at hSw); go_simp)
        try simp only [Act.put, List.setIfInBounds_toArray, List.set_cons_zero, List.set_cons_succ]
        refine wpAnyH_take (i := 12) (oi := ⟨some 22, _, _, _, _, _⟩) (v := .pointer (some ⟨w.heap.size + 1, j, none⟩)) rfl (by kernel_rfl) (by kernel_rfl) (by kernel_rfl) (fun _ _ _ h => h) (Or.inl ⟨by rfl, ?_⟩) (by assumption) ?_
        · (intro w9 hSw; (try dsimp only at hSw); go_simp; (try (intro h9; exact absurd h9 (by omega))))
        try simp only [Act.put, List.setIfInBounds_toArray, List.set_cons_zero, List.set_cons_succ]
        refine wpAnyH_ready (rs := [13]) (by kernel_rfl) (by simp) ?_
        refine AllReadyH.cons (o := ⟨none, _, _, _, _, _⟩) rfl (fun K9 hK9 => ?_) AllReadyH.nil
        go_simp
        refine hK9.out _ _ ?_ (fun hHeld => ?_)
        · trivial
        clear hK9 K9
        try simp only [Act.put]
        refine wpAnyH_done (by kernel_rfl) ?_ _
        obtain ⟨P3, Z3, hb3⟩ := HPZ.out
        generalize (wr.setCell ⟨w.heap.size + 1, j, none⟩ (qv y)).drew = w3 at P3 Z3 hb3
        clear hHeld hc1 hf1 HPZ P Z
        go_wp2_with fail
        exact ⟨⟨k + 1, by omega, by go_num, Lib.hid Z3, Lib.hid P3, hb3⟩, by simp [intOf]; omega⟩
    · obtain rfl : k = n := by omega
      rw [HN.out] at P
      have HONE : Hid (∀ v ∈ (Pol (bn L)).toList, v.oneCell' = true) := Lib.hid (by intro v hv; simp at hv; rcases hv with rfl | rfl <;> rfl)
      go_wp2_with (first | (refine wpList_load_row rfl _ _ rfl _ rfl _ _ _ _ P.out Try.underlying40 rfl (plen (bn L)) ?_) | (refine wpList_store_mid rfl _ _ _ rfl _ _ (Pol (bn L)) rfl rfl (Z.out.there (by simp)) (plen (bn L)) (by kernel_rfl) ?_))
      have hW := Z.out.whole (Pol (bn L)).toList rfl
      refine bodyPost_ret (v := .agg (Pol (bn L))) (results_cell_row rfl _ _ _ _ _ _ _ rfl hW Try.underlying40 rfl (plen (bn L))) rfl ?_
      exact ⟨rfl, bw hb (by omega) _ _⟩
end Go.Proofs.Ytlfghagidajpeaa
