/- The contract of a polynomial's told. -/
import Derived.Test.YtlfghagidajpeaaGPoly
namespace Go.Proofs.Ytlfghagidajpeaa
open Go.RowKit

theorem gtext_of {W : World} {g n c : Nat} {t : TypeId} {L : List UInt8} (h : Blk W g t (L.map uv).toArray) (hl : L.length = n) : (convert 35 9 (.slice (some ⟨g, 0, none⟩) n c)).run Try.prog W = .ok (.string ⟨L.toArray⟩) W := by
  subst hl
  refine run_convert_bytes_back (P := Try.prog) W 35 9 5 ⟨g, 0, none⟩ c L Try.underlying35 Try.underlying5 Try.underlying9 (fun j hj => ?_)
  rw [Addr.add_mid, Nat.zero_add, h.cell]
  have : j < L.length := by simpa using hj
  simp [this]
def gzeros : List UInt8 := List.replicate 16 0
theorem shr_byte (N : Nat) {i : Nat} (h : i < 16) : IntKind.u8.wrap (((wi N (i / 8) : Nat) : Int) / 2 ^ (56 - i % 8 * 8)) = (((by8 N i).toNat : Nat) : Int) := by
  have h1 := wi_byte N h
  have h2 : (((wi N (i / 8) : Nat) : Int) / 2 ^ (56 - i % 8 * 8)) = ((wi N (i / 8) / 2 ^ (56 - i % 8 * 8) : Nat) : Int) := by simp
  rw [IntKind.wrap_u8, h2]
  omega

set_option maxRecDepth 100000 in
set_option maxHeartbeats 2000000 in
theorem gtold_any (N : Nat) (w : World) :
    Calls Try.prog 20 #[.agg (Pol N)] w fun e w' => e = .returned (.string ⟨(nb N).toArray⟩) ∧ Below w.heap.size w w' := by
  have HN := Lib.hid (nb_len N)
  have HZ : Hid (gzeros.length = 16) := Lib.hid rfl
  have HU : Hid (∀ k, k < 16 → ub (nb N) k = by8 N k) := Lib.hid (fun k hk => ub_tab _ hk)
  have HAT := Lib.hid (fun (k : Nat) (hk : k < 16) => pol_at N (j := k / 8) (by omega))
  have HSR := Lib.hid (fun (k : Nat) (hk : k < 16) => shr_byte N hk)
  have H0 : Hid ((gzeros.map uv).toArray = ((cutL 0 (nb N) gzeros).map uv).toArray) := Lib.hid (by rw [cutL_zero])
  have HZR : Hid (#[.int .u8 0, .int .u8 0, .int .u8 0, .int .u8 0, .int .u8 0, .int .u8 0, .int .u8 0, .int .u8 0, .int .u8 0, .int .u8 0, .int .u8 0, .int .u8 0, .int .u8 0, .int .u8 0, .int .u8 0, .int .u8 0] = (gzeros.map uv).toArray) := Lib.hid (by rfl)
  obtain ⟨S, hS⟩ : ∃ S, nb N = S := ⟨_, rfl⟩
  obtain ⟨Z, hZ⟩ : ∃ Z, gzeros = Z := ⟨_, rfl⟩
  rw [hS] at HN HU H0 ⊢
  rw [hZ] at HZ H0 HZR
  clear hS hZ
  go_enter Try.func20, Try.ntmps20
  go_upto_region 2 with fail
  try rw [HZR.out]
  have B0 := Lib.hid ((Blk.new w 40 (Pol N)).alloc (.cells (Z.map uv).toArray 58))
  have Z0 : Hid (Blk ((w.alloc (.cells (Pol N) 40)).alloc (.cells (Z.map uv).toArray 58)) (w.heap.size + 1) 58 (Z.map uv).toArray) := Lib.hid (Blk.newAt (by simp) _ _)
  have hb0 := ba (ba (Below.refl w.heap.size w) (.cells (Pol N) 40)) (.cells (Z.map uv).toArray 58)
  generalize (w.alloc (.cells (Pol N) 40)).alloc (.cells (Z.map uv).toArray 58) = w1 at B0 Z0 hb0
  rw [H0.out] at Z0
  go_wp2_with fail
  go_loopw [5] (fun iv wr => ∃ k : Nat, k ≤ 16 ∧ iv = .int .i64 k ∧ Hid (Blk wr w.heap.size 40 (Pol N)) ∧ Hid (Blk wr (w.heap.size + 1) 58 ((cutL k S Z).map uv).toArray) ∧ Below w.heap.size w wr) (fun iv _ => 16 - (intOf iv).toNat)
  case atStart => exact ⟨0, Nat.zero_le _, rfl, B0, Z0, hb0⟩
  case round =>
    clear Z0 B0 hb0
    obtain ⟨k, hk, rfl, B, P, hb⟩ := hrel
    by_cases hlt : k < 16
    · have hki : (k : Int) < 16 := by omega
      have HC := Lib.hid ((B.out.cell (k / 8)).trans (HAT.out k hlt))
      have hset := cutL_set HN.out HZ.out hlt
      rw [HU.out k hlt] at hset
      have hc := (P.out.cell k).trans (row_at (by rw [cutL_len HN.out HZ.out hk]; exact hlt))
      generalize ub (cutL k S Z) k = old at hc
      have hf := P.out.frozen k
      have HS := Lib.hid (fun W => shiftOf_any k W hlt)
      have hsr := HSR.out k hlt
      have hP2 := P.out.set_ k (uv (by8 N k))
      rw [hset] at hP2
      have HP2 := Lib.hid hP2
      have HWL := Lib.hid (wi_lt N (k / 8))
      generalize wi N (k / 8) = x at HC hsr HWL
      generalize by8 N k = b at hsr HP2 hset hP2
      obtain ⟨s, hs56⟩ : ∃ s, 56 - k % 8 * 8 = s := ⟨_, rfl⟩
      have hsl : s ≤ 56 := by omega
      rw [hs56] at HS hsr
      have HSR2 := Lib.hid hsr
      obtain ⟨j, hj⟩ : ∃ j, k / 8 = j := ⟨_, rfl⟩
      have hj2 : j < 2 := by omega
      have hji : (k : Int) / 8 = (j : Int) := by omega
      rw [hj] at HC
      clear hP2 hs56 hj hset hsr
      go_wp2_with fail
      have hc1 : wr.drew.cell? ⟨w.heap.size + 1, k, none⟩ = some (uv old) := hc
      have hf1 : wr.drew.frozen? ⟨w.heap.size + 1, k, none⟩ = false := hf
      have hC0 : wr.drew.cell? ⟨w.heap.size, j, none⟩ = some (qv x) := HC.out
      have B2 := (B.out.far (p := ⟨w.heap.size + 1, k, none⟩) (by simp) (uv b)).drew
      have hC2 : (wr.setCell ⟨w.heap.size + 1, k, none⟩ (uv b)).drew.cell? ⟨w.heap.size, j, none⟩ = some (qv x) := by
        have h9 := B2.cell j
        rw [← B.out.cell j] at h9
        exact h9.trans HC.out
      have HPZ : Hid (Blk (wr.setCell ⟨w.heap.size + 1, k, none⟩ (uv b)).drew (w.heap.size + 1) 58 ((cutL (k + 1) S Z).map uv).toArray ∧ Blk (wr.setCell ⟨w.heap.size + 1, k, none⟩ (uv b)).drew w.heap.size 40 (Pol N) ∧ Below w.heap.size w (wr.setCell ⟨w.heap.size + 1, k, none⟩ (uv b)).drew) := Lib.hid ⟨HP2.out.drew, B2, (bs hb (b := w.heap.size + 1) (o := k) (by omega) (uv b)).drew⟩
      have HC0 := Lib.hid hC0
      have HC2 := Lib.hid hC2
      have HJW : Hid (IntKind.i64.wrap (j : Int) = (j : Int)) := Lib.hid (by have h64 := IntKind.wrap_i64; rw [h64]; omega)
      clear hf hc HP2 hb hC0 hC2 B2
      refine wp_region_held_drew (S := fun W => W.cell? ⟨w.heap.size, j, none⟩ = some (qv x)) (by kernel_rfl) HC0.out (fun hHeld => ?_)
      refine wpAnyH_take (i := 0) (oi := ⟨some 8, _, _, _, _, _⟩) (v := ?_) rfl (by kernel_rfl) (by kernel_rfl) (by kernel_rfl) (fun _ _ _ h => h) (Or.inl ⟨by rfl, ?_⟩) (by assumption) ?_
      rotate_left
      · (intro w9 hSw; (try dsimp only at hSw); go_simp; try with_reducible rfl)
      try simp only [Act.put, List.setIfInBounds_toArray, List.set_cons_zero, List.set_cons_succ]
      refine wpAnyH_take (i := 1) (oi := ⟨some 9, _, _, _, _, _⟩) (v := ?_) rfl (by kernel_rfl) (by kernel_rfl) (by kernel_rfl) (fun _ _ _ h => h) (Or.inl ⟨by rfl, ?_⟩) (by assumption) ?_
      rotate_left
      · (intro w9 hSw; (try dsimp only at hSw); go_simp; try with_reducible rfl)
      try simp only [Act.put, List.setIfInBounds_toArray, List.set_cons_zero, List.set_cons_succ]
      refine wpAnyH_take (i := 2) (oi := ⟨some 10, _, _, _, _, _⟩) (v := .int .i64 (j : Int)) rfl (by kernel_rfl) (by kernel_rfl) (by kernel_rfl) (fun _ _ _ h => h) (Or.inl ⟨by rfl, ?_⟩) (by assumption) ?_
      · (intro w9 hSw; (try dsimp only at hSw); go_simp; rw [HJW.out])
      try simp only [Act.put, List.setIfInBounds_toArray, List.set_cons_zero, List.set_cons_succ]
      refine wpAnyH_take (i := 3) (oi := ⟨some 11, _, _, _, _, _⟩) (v := .pointer (some ⟨w.heap.size, j, none⟩)) rfl (by kernel_rfl) (by kernel_rfl) (by kernel_rfl) (fun _ _ _ h => h) (Or.inl ⟨by rfl, ?_⟩) (by assumption) ?_
      · (intro w9 hSw; (try dsimp only at hSw); go_simp; (try (intro h9; exact absurd h9 (by omega))))
      try simp only [Act.put, List.setIfInBounds_toArray, List.set_cons_zero, List.set_cons_succ]
      refine wpAnyH_take (i := 4) (oi := ⟨some 12, _, _, _, _, _⟩) (v := qv x) rfl (by kernel_rfl) (by kernel_rfl) (by kernel_rfl) (fun _ _ _ h => h) (Or.inl ⟨by rfl, ?_⟩) (by assumption) ?_
      · (intro w9 hSw; (try dsimp only at hSw); go_simp)
      try simp only [Act.put, List.setIfInBounds_toArray, List.set_cons_zero, List.set_cons_succ]
      refine wpAnyH_take (i := 5) (oi := ⟨some 13, _, _, _, _, _⟩) (v := ?_) rfl (by kernel_rfl) (by kernel_rfl) (by kernel_rfl) (fun _ _ _ h => h) (Or.inl ⟨by rfl, ?_⟩) (by assumption) ?_
      rotate_left
      · (intro w9 hSw; (try dsimp only at hSw); go_simp; try with_reducible rfl)
      try simp only [Act.put, List.setIfInBounds_toArray, List.set_cons_zero, List.set_cons_succ]
      refine wpAnyH_ready (rs := [6]) (by kernel_rfl) (by simp) ?_
      refine AllReadyH.cons (o := ⟨some 14, _, _, _, _, _⟩) rfl (fun K9 hK9 => ?_) AllReadyH.nil
      go_simp
      go_at_call 29
      refine (HS.out _).mono ?_
      rintro e w2 ⟨rfl, rfl⟩
      refine hK9.out _ _ ?_ (fun hHeld => ?_)
      · exact HC0.out
      clear hK9 K9
      try simp only [Act.put, List.setIfInBounds_toArray, List.set_cons_zero, List.set_cons_succ]
      refine wpAnyH_take (i := 7) (oi := ⟨some 15, _, _, _, _, _⟩) (v := .int .u64 ((x : Int) / 2 ^ s)) rfl (by kernel_rfl) (by kernel_rfl) (by kernel_rfl) (fun _ _ _ h => h) (Or.inl ⟨by rfl, ?_⟩) (by assumption) ?_
      · (intro w9 hSw; (try dsimp only at hSw); go_simp)
      try simp only [Act.put, List.setIfInBounds_toArray, List.set_cons_zero, List.set_cons_succ]
      refine wpAnyH_take (i := 8) (oi := ⟨some 16, _, _, _, _, _⟩) (v := uv b) rfl (by kernel_rfl) (by kernel_rfl) (by kernel_rfl) (fun _ _ _ h => h) (Or.inl ⟨by rfl, ?_⟩) (by assumption) ?_
      · (intro w9 hSw; (try dsimp only at hSw); go_simp; rw [HSR2.out])
      try simp only [Act.put, List.setIfInBounds_toArray, List.set_cons_zero, List.set_cons_succ]
      refine wpAnyH_take (i := 9) (oi := ⟨some 17, _, _, _, _, _⟩) (v := .pointer (some ⟨w.heap.size + 1, k, none⟩)) rfl (by kernel_rfl) (by kernel_rfl) (by kernel_rfl) (fun _ _ _ h => h) (Or.inl ⟨by rfl, ?_⟩) (by assumption) ?_
      · (intro w9 hSw; (try dsimp only at hSw); go_simp; (try (intro h9; exact absurd h9 (by omega))))
      try simp only [Act.put, List.setIfInBounds_toArray, List.set_cons_zero, List.set_cons_succ]
      refine wpAnyH_ready (rs := [10]) (by kernel_rfl) (by simp) ?_
      refine AllReadyH.cons (o := ⟨none, _, _, _, _, _⟩) rfl (fun K9 hK9 => ?_) AllReadyH.nil
      go_simp
      refine hK9.out _ _ ?_ (fun hHeld => ?_)
      · exact HC2.out
      clear hK9 K9
      try simp only [Act.put]
      refine wpAnyH_done (by kernel_rfl) ?_ _
      obtain ⟨P3, B3, hb3⟩ := HPZ.out
      generalize (wr.setCell ⟨w.heap.size + 1, k, none⟩ (uv b)).drew = w3 at P3 B3 hb3
      clear hHeld hc1 hf1 HPZ P B HC0 HC2
      go_wp2_with fail
      exact ⟨⟨k + 1, by omega, by go_num, Lib.hid B3, Lib.hid P3, hb3⟩, by simp [intOf]; omega⟩
    · obtain rfl : k = 16 := by omega
      have hP := P.out
      rw [cutL_all HN.out HZ.out] at hP
      have hcv := gtext_of (n := 16) (c := 16) hP HN.out
      clear hP P
      go_wp2
      go_ret
      exact ⟨rfl, hb⟩
end Go.Proofs.Ytlfghagidajpeaa
