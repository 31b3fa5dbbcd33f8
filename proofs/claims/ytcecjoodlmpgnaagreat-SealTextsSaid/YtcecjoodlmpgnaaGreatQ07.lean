/- Texts of this seat, one behind the other: GTold, GRBytes, GRProd, GTimes, GMulL, GRMul. -/
import Derived.Test.YtcecjoodlmpgnaaGreatQ06
/- The contract of a polynomial's told. -/
namespace Go.Proofs.YtcecjoodlmpgnaaGreat
open Go.RowKit

theorem gtext_of {W : World} {g n c : Nat} {t : TypeId} {L : List UInt8} (h : Blk W g t (L.map uv).toArray) (hl : L.length = n) : (convert 64 9 (.slice (some ⟨g, 0, none⟩) n c)).run Tryz.prog W = .ok (.string ⟨L.toArray⟩) W := by
  subst hl
  refine run_convert_bytes_back (P := Tryz.prog) W 64 9 5 ⟨g, 0, none⟩ c L Tryz.underlying64 Tryz.underlying5 Tryz.underlying9 (fun j hj => ?_)
  rw [Addr.add_mid, Nat.zero_add, h.cell]
  have : j < L.length := by simpa using hj
  simp [this]
def gzeros : List UInt8 := List.replicate 16 0
theorem shr_byte (N : Nat) {i : Nat} (h : i < 16) : IntKind.u8.wrap (((wi N (i / 8) : Nat) : Int) / 2 ^ (56 - i % 8 * 8)) = (((by8 N i).toNat : Nat) : Int) := by
  have h1 := wi_byte N h
  have h2 : (((wi N (i / 8) : Nat) : Int) / 2 ^ (56 - i % 8 * 8)) = ((wi N (i / 8) / 2 ^ (56 - i % 8 * 8) : Nat) : Int) := by simp
  rw [IntKind.wrap_u8, h2]
  omega

set_option maxRecDepth 100000 in
set_option maxHeartbeats 2000000 in
theorem gtold_any (N : Nat) (w : World) :
    Calls Tryz.prog 72 #[.agg (Pol N)] w fun e w' => e = .returned (.string ⟨(nb N).toArray⟩) ∧ Below w.heap.size w w' := by
  have HN := Lib.hid (nb_len N)
  have HZ : Hid (gzeros.length = 16) := Lib.hid rfl
  have HU : Hid (∀ k, k < 16 → ub (nb N) k = by8 N k) := Lib.hid (fun k hk => ub_tab _ hk)
  have HAT := Lib.hid (fun (k : Nat) (hk : k < 16) => pol_at N (j := k / 8) (by omega))
  have HSR := Lib.hid (fun (k : Nat) (hk : k < 16) => shr_byte N hk)
  have H0 : Hid ((gzeros.map uv).toArray = ((cutL 0 (nb N) gzeros).map uv).toArray) := Lib.hid (by rw [cutL_zero])
  have HZR : Hid (#[.int .u8 0, .int .u8 0, .int .u8 0, .int .u8 0, .int .u8 0, .int .u8 0, .int .u8 0, .int .u8 0, .int .u8 0, .int .u8 0, .int .u8 0, .int .u8 0, .int .u8 0, .int .u8 0, .int .u8 0, .int .u8 0] = (gzeros.map uv).toArray) := Lib.hid (by rfl)
  obtain ⟨S, hS⟩ : ∃ S, nb N = S := ⟨_, rfl⟩
  obtain ⟨Z, hZ⟩ : ∃ Z, gzeros = Z := ⟨_, rfl⟩
  rw [hS] at HN HU H0 ⊢
  rw [hZ] at HZ H0 HZR
  clear hS hZ
  go_enter Tryz.func72, Tryz.ntmps72
  go_upto_region 2 with fail
  try rw [HZR.out]
  have B0 := Lib.hid ((Blk.new w 109 (Pol N)).alloc (.cells (Z.map uv).toArray 140))
  have Z0 : Hid (Blk ((w.alloc (.cells (Pol N) 109)).alloc (.cells (Z.map uv).toArray 140)) (w.heap.size + 1) 140 (Z.map uv).toArray) := Lib.hid (Blk.newAt (by simp) _ _)
  have hb0 := ba (ba (Below.refl w.heap.size w) (.cells (Pol N) 109)) (.cells (Z.map uv).toArray 140)
  generalize (w.alloc (.cells (Pol N) 109)).alloc (.cells (Z.map uv).toArray 140) = w1 at B0 Z0 hb0
  rw [H0.out] at Z0
  go_wp2_with fail
  go_loopw [5] (fun iv wr => ∃ k : Nat, k ≤ 16 ∧ iv = .int .i64 k ∧ Hid (Blk wr w.heap.size 109 (Pol N)) ∧ Hid (Blk wr (w.heap.size + 1) 140 ((cutL k S Z).map uv).toArray) ∧ Below w.heap.size w wr) (fun iv _ => 16 - (intOf iv).toNat)
  case atStart => exact ⟨0, Nat.zero_le _, rfl, B0, Z0, hb0⟩
  case round =>
    clear Z0 B0 hb0
    obtain ⟨k, hk, rfl, B, P, hb⟩ := hrel
    by_cases hlt : k < 16
    · have hki : (k : Int) < 16 := by omega
      have HC := Lib.hid ((B.out.cell (k / 8)).trans (HAT.out k hlt))
      have hset := cutL_set HN.out HZ.out hlt
      rw [HU.out k hlt] at hset
      have hc := (P.out.cell k).trans (row_at (by rw [cutL_len HN.out HZ.out hk]; exact hlt))
      generalize ub (cutL k S Z) k = old at hc
      have hf := P.out.frozen k
      have HS := Lib.hid (fun W => shiftOf_any k W hlt)
      have hsr := HSR.out k hlt
      have hP2 := P.out.set_ k (uv (by8 N k))
      rw [hset] at hP2
      have HP2 := Lib.hid hP2
      have HWL := Lib.hid (wi_lt N (k / 8))
      generalize wi N (k / 8) = x at HC hsr HWL
      generalize by8 N k = b at hsr HP2 hset hP2
      obtain ⟨s, hs56⟩ : ∃ s, 56 - k % 8 * 8 = s := ⟨_, rfl⟩
      have hsl : s ≤ 56 := by omega
      rw [hs56] at HS hsr
      have HSR2 := Lib.hid hsr
      obtain ⟨j, hj⟩ : ∃ j, k / 8 = j := ⟨_, rfl⟩
      have hj2 : j < 2 := by omega
      have hji : (k : Int) / 8 = (j : Int) := by omega
      rw [hj] at HC
      clear hP2 hs56 hj hset hsr
      go_wp2_with fail
      have hc1 : wr.drew.cell? ⟨w.heap.size + 1, k, none⟩ = some (uv old) := hc
      have hf1 : wr.drew.frozen? ⟨w.heap.size + 1, k, none⟩ = false := hf
      have hC0 : wr.drew.cell? ⟨w.heap.size, j, none⟩ = some (qv x) := HC.out
      have B2 := (B.out.far (p := ⟨w.heap.size + 1, k, none⟩) (by simp) (uv b)).drew
      have hC2 : (wr.setCell ⟨w.heap.size + 1, k, none⟩ (uv b)).drew.cell? ⟨w.heap.size, j, none⟩ = some (qv x) := by
        have h9 := B2.cell j
        rw [← B.out.cell j] at h9
        exact h9.trans HC.out
      have HPZ : Hid (Blk (wr.setCell ⟨w.heap.size + 1, k, none⟩ (uv b)).drew (w.heap.size + 1) 140 ((cutL (k + 1) S Z).map uv).toArray ∧ Blk (wr.setCell ⟨w.heap.size + 1, k, none⟩ (uv b)).drew w.heap.size 109 (Pol N) ∧ Below w.heap.size w (wr.setCell ⟨w.heap.size + 1, k, none⟩ (uv b)).drew) := Lib.hid ⟨HP2.out.drew, B2, (bs hb (b := w.heap.size + 1) (o := k) (by omega) (uv b)).drew⟩
      have HC0 := Lib.hid hC0
      have HC2 := Lib.hid hC2
      have HJW : Hid (IntKind.i64.wrap (j : Int) = (j : Int)) := Lib.hid (by have h64 := IntKind.wrap_i64; rw [h64]; omega)
      clear hf hc HP2 hb hC0 hC2 B2
      refine wp_region_held_drew (S := fun W => W.cell? ⟨w.heap.size, j, none⟩ = some (qv x)) (by kernel_rfl) HC0.out (fun hHeld => ?_)
      refine wpAnyH_take (i := 0) (oi := ⟨some 8, _, _, _, _, _⟩) (v := ?_) rfl (by kernel_rfl) (by kernel_rfl) (by kernel_rfl) (fun _ _ _ h => h) (Or.inl ⟨by rfl, ?_⟩) (by assumption) ?_
      rotate_left
      · (intro w9 hSw; (try dsimp only at hSw); go_simp; try with_reducible rfl)
      try simp only [Act.put, List.setIfInBounds_toArray, List.set_cons_zero, List.set_cons_succ]
      refine wpAnyH_take (i := 1) (oi := ⟨some 9, _, _, _, _, _⟩) (v := ?_) rfl (by kernel_rfl) (by kernel_rfl) (by kernel_rfl) (fun _ _ _ h => h) (Or.inl ⟨by rfl, ?_⟩) (by assumption) ?_
      rotate_left
      · (intro w9 hSw; (try dsimp only at hSw); go_simp; try with_reducible rfl)
      try simp only [Act.put, List.setIfInBounds_toArray, List.set_cons_zero, List.set_cons_succ]
      refine wpAnyH_take (i := 2) (oi := ⟨some 10, _, _, _, _, _⟩) (v := .int .i64 (j : Int)) rfl (by kernel_rfl) (by kernel_rfl) (by kernel_rfl) (fun _ _ _ h => h) (Or.inl ⟨by rfl, ?_⟩) (by assumption) ?_
      · (intro w9 hSw; (try dsimp only at hSw); go_simp; rw [HJW.out])
      try simp only [Act.put, List.setIfInBounds_toArray, List.set_cons_zero, List.set_cons_succ]
      refine wpAnyH_take (i := 3) (oi := ⟨some 11, _, _, _, _, _⟩) (v := .pointer (some ⟨w.heap.size, j, none⟩)) rfl (by kernel_rfl) (by kernel_rfl) (by kernel_rfl) (fun _ _ _ h => h) (Or.inl ⟨by rfl, ?_⟩) (by assumption) ?_
      · (intro w9 hSw; (try dsimp only at hSw); go_simp; (try (intro h9; exact absurd h9 (by omega))))
      try simp only [Act.put, List.setIfInBounds_toArray, List.set_cons_zero, List.set_cons_succ]
      refine wpAnyH_take (i := 4) (oi := ⟨some 12, _, _, _, _, _⟩) (v := qv x) rfl (by kernel_rfl) (by kernel_rfl) (by kernel_rfl) (fun _ _ _ h => h) (Or.inl ⟨by rfl, ?_⟩) (by assumption) ?_
      · (intro w9 hSw; (try dsimp only at hSw); go_simp)
      try simp only [Act.put, List.setIfInBounds_toArray, List.set_cons_zero, List.set_cons_succ]
      refine wpAnyH_take (i := 5) (oi := ⟨some 13, _, _, _, _, _⟩) (v := ?_) rfl (by kernel_rfl) (by kernel_rfl) (by kernel_rfl) (fun _ _ _ h => h) (Or.inl ⟨by rfl, ?_⟩) (by assumption) ?_
      rotate_left
      · (intro w9 hSw; (try dsimp only at hSw); go_simp; try with_reducible rfl)
      try simp only [Act.put, List.setIfInBounds_toArray, List.set_cons_zero, List.set_cons_succ]
      refine wpAnyH_ready (rs := [6]) (by kernel_rfl) (by simp) ?_
      refine AllReadyH.cons (o := ⟨some 14, _, _, _, _, _⟩) rfl (fun K9 hK9 => ?_) AllReadyH.nil
      go_simp
      go_at_call 94
      refine (HS.out _).mono ?_
      rintro e w2 ⟨rfl, rfl⟩
      refine hK9.out _ _ ?_ (fun hHeld => ?_)
      · exact HC0.out
      clear hK9 K9
      try simp only [Act.put, List.setIfInBounds_toArray, List.set_cons_zero, List.set_cons_succ]
      refine wpAnyH_take (i := 7) (oi := ⟨some 15, _, _, _, _, _⟩) (v := .int .u64 ((x : Int) / 2 ^ s)) rfl (by kernel_rfl) (by kernel_rfl) (by kernel_rfl) (fun _ _ _ h => h) (Or.inl ⟨by rfl, ?_⟩) (by assumption) ?_
      · (intro w9 hSw; (try dsimp only at hSw); go_simp)
      try simp only [Act.put, List.setIfInBounds_toArray, List.set_cons_zero, List.set_cons_succ]
      refine wpAnyH_take (i := 8) (oi := ⟨some 16, _, _, _, _, _⟩) (v := uv b) rfl (by kernel_rfl) (by kernel_rfl) (by kernel_rfl) (fun _ _ _ h => h) (Or.inl ⟨by rfl, ?_⟩) (by assumption) ?_
      · (intro w9 hSw; (try dsimp only at hSw); go_simp; rw [HSR2.out])
      try simp only [Act.put, List.setIfInBounds_toArray, List.set_cons_zero, List.set_cons_succ]
      refine wpAnyH_take (i := 9) (oi := ⟨some 17, _, _, _, _, _⟩) (v := .pointer (some ⟨w.heap.size + 1, k, none⟩)) rfl (by kernel_rfl) (by kernel_rfl) (by kernel_rfl) (fun _ _ _ h => h) (Or.inl ⟨by rfl, ?_⟩) (by assumption) ?_
      · (intro w9 hSw; (try dsimp only at hSw); go_simp; (try (intro h9; exact absurd h9 (by omega))))
      try simp only [Act.put, List.setIfInBounds_toArray, List.set_cons_zero, List.set_cons_succ]
      refine wpAnyH_ready (rs := [10]) (by kernel_rfl) (by simp) ?_
      refine AllReadyH.cons (o := ⟨none, _, _, _, _, _⟩) rfl (fun K9 hK9 => ?_) AllReadyH.nil
      go_simp
      refine hK9.out _ _ ?_ (fun hHeld => ?_)
      · exact HC2.out
      clear hK9 K9
      try simp only [Act.put]
      refine wpAnyH_done (by kernel_rfl) ?_ _
      obtain ⟨P3, B3, hb3⟩ := HPZ.out
      generalize (wr.setCell ⟨w.heap.size + 1, k, none⟩ (uv b)).drew = w3 at P3 B3 hb3
      clear hHeld hc1 hf1 HPZ P B HC0 HC2
      go_wp2_with fail
      exact ⟨⟨k + 1, by omega, by go_num, Lib.hid B3, Lib.hid P3, hb3⟩, by simp [intOf]; omega⟩
    · obtain rfl : k = 16 := by omega
      have hP := P.out
      rw [cutL_all HN.out HZ.out] at hP
      have hcv := gtext_of (n := 16) (c := 16) hP HN.out
      clear hP P
      go_wp2
      go_ret
      exact ⟨rfl, hb⟩
end Go.Proofs.YtcecjoodlmpgnaaGreat
/- The contract of the reference's bytes. -/
namespace Go.Proofs.YtcecjoodlmpgnaaGreat
open Go.RowKit

theorem ginfo5 : (Tryz.prog.info? 5).map (fun i => (i.zero, i.size, i.bytes)) = some (some (.int .u8 0), 1, 1) := by kernel_rfl
theorem gtake_ub (N : List UInt8) (k : Nat) (h : k < N.length) : N.take (k + 1) = N.take k ++ [ub N k] := by
  rw [ub_at h, List.take_append_getElem h]
theorem gtake_map (N : List UInt8) (k : Nat) (h : k < N.length) : (N.take (k + 1)).map uv = (N.take k).map uv ++ [uv (ub N k)] := by
  rw [gtake_ub N k h, List.map_append]; rfl

set_option maxRecDepth 100000 in
set_option maxHeartbeats 4000000 in
theorem bytes_any (A : Option Addr) (c : Nat) (f : Nat → Bool) (w : World) (h : BR w A 128 f) :
    Calls Tryz.prog 109 #[.slice A 128 c] w fun e w' => e = .returned (.string ⟨(nb (mkN 128 f)).toArray⟩) ∧ Below w.heap.size w w' := by
  obtain ⟨i0, hi0, hz0, hz1, hz2⟩ := info_parts ginfo5
  obtain ⟨a, rfl, hA⟩ := h
  have HA := Lib.hid hA
  have HN := Lib.hid (nb_len (mkN 128 f))
  have HU : Hid (∀ i, i < 16 → (ub (nb (mkN 128 f)) i).toNat = byF (fun k => f (8 * i + k)) 8) := Lib.hid (fun i hi => by rw [byF_by8 f hi]; unfold nb; rw [ub_tab _ hi])
  have HBL := Lib.hid byF_lt
  obtain ⟨N, hN⟩ : ∃ N, nb (mkN 128 f) = N := ⟨_, rfl⟩
  rw [hN] at HN HU ⊢
  have HTK := Lib.hid (fun k (hk : k < 16) => gtake_map N k (by rw [HN.out]; exact hk))
  have HO0 : Hid ((w.alloc (.cells #[] 5)).ownsRow w.heap.size 5 1 (.slice (some ⟨w.heap.size, 0, none⟩) 0 0) 0 ((N.take 0).map uv)) := Lib.hid (gown_nil (Blk.new w _ _) (Nat.le_refl _))
  have hb0 := ba (Below.refl w.heap.size w) (.cells #[] 5)
  clear hN hA
  go_enter Tryz.func109, Tryz.ntmps109
  go_wp2_with fail
  go_loopw [3, 4] (fun ov iv wr => ∃ i g d : Nat, i ≤ 16 ∧ iv = .int .i64 i ∧ ov = .slice (some ⟨g, 0, none⟩) i d ∧ Hid (wr.ownsRow w.heap.size 5 1 (.slice (some ⟨g, 0, none⟩) i d) i ((N.take i).map uv)) ∧ Below w.heap.size w wr) (fun _ iv _ => 16 - (intOf iv).toNat)
  case atStart => exact ⟨0, _, _, Nat.zero_le _, rfl, rfl, HO0, hb0⟩
  case round =>
    clear HO0 hb0
    obtain ⟨i, g, d, hi, rfl, rfl, HO, hb⟩ := hrel
    by_cases hlt : i < 16
    · have hil : (i : Int) < 16 := by omega
      have HT := Lib.hid (HTK.out i hlt)
      have hu := HU.out i hlt
      have HAI : Hid (∀ k, k < 8 → wr.cell? ⟨a, 8 * i + k, none⟩ = some (lv (f (8 * i + k)))) := Lib.hid (fun k hk => cell_later hb (HA.out (8 * i + k) (by omega)))
      have HF : Hid (∀ k, byF (fun k => f (8 * i + k)) (k + 1) = 2 * byF (fun k => f (8 * i + k)) k + (if f (8 * i + k) then 1 else 0)) := Lib.hid (fun _ => rfl)
      have HF0 : Hid (byF (fun k => f (8 * i + k)) 0 = 0) := Lib.hid rfl
      have HL := Lib.hid (fun k => HBL.out (fun k => f (8 * i + k)) k)
      generalize byF (fun k => f (8 * i + k)) = F at hu HF HF0 HL
      have HUU := Lib.hid hu
      have hz := hb.size
      clear hu
      go_wp2_with fail
      go_loop [5, 6] (fun nv kv => ∃ k n : Nat, k ≤ 8 ∧ n < 256 ∧ kv = .int .i64 k ∧ nv = .int .i64 n ∧ Hid (F k = n)) (fun _ kv => 8 - (intOf kv).toNat)
      case atStart => exact ⟨0, 0, by omega, by omega, rfl, rfl, HF0⟩
      case round =>
        obtain ⟨k, n, hk, hn, rfl, rfl, HK⟩ := hrel
        by_cases hkl : k < 8
        · have hki : (k : Int) < 8 := by omega
          have hcell := HAI.out k hkl
          have hFk := HF.out k
          rw [HK.out] at hFk
          have h256 : F (k + 1) < 256 := by
            have h1 := HL.out (k + 1)
            have h2 : 2 ^ (k + 1) ≤ 2 ^ 8 := Nat.pow_le_pow_right (by omega) (by omega)
            omega
          cases hb9 : f (8 * i + k)
          · rw [hb9] at hcell hFk
            have HFK : Hid (F (k + 1) = 2 * n) := Lib.hid (by rw [hFk]; simp)
            rw [HFK.out] at h256
            clear hFk hb9
            go_wp2_with fail
            exact ⟨⟨k + 1, 2 * n, by omega, h256, by go_num, by go_num, HFK⟩, by simp [intOf]; omega⟩
          · rw [hb9] at hcell hFk
            have HFK : Hid (F (k + 1) = 2 * n + 1) := Lib.hid (by rw [hFk]; simp)
            rw [HFK.out] at h256
            clear hFk hb9
            go_wp2_with fail
            exact ⟨⟨k + 1, 2 * n + 1, by omega, h256, by go_num, by go_num, HFK⟩, by simp [intOf]; omega⟩
        · obtain rfl : k = 8 := by omega
          have he := HUU.out
          rw [HK.out] at he
          have hw8 : IntKind.u8.wrap (n : Int) = (((ub N i).toNat : Nat) : Int) := by rw [IntKind.wrap_u8, he]; omega
          generalize ub N i = y at he HT hw8
          clear hkl hk he
          have hnews := news_new wr [uv y] 5
          go_wp2_with (at_builtin; refine wpList_append_own _ rfl _ _ 64 rfl w.heap.size 5 i0 (.int .u8 0) 1 1 Tryz.underlying64 hi0 hz0 hz1 hz2 rfl (by decide) _ _ _ rfl (own_alloc HO.out _) ⟨wr.heap.size, 0, none⟩ 1 1 [uv y] rfl rfl hnews (by simp [Value.oneCell']) (by unfold maxLen; omega) (by omega) (by simp; omega) ?_; intro v' w6 hown' hgrow _; obtain ⟨g1, c1, rfl⟩ := ownsRow_succ hown'; have hb6 : Below w.heap.size w w6 := (ba hb (.cells #[uv y] 5)).grown hgrow (by simp; omega) (fun k e => by cases e; exact (HO.out.lt _ rfl).1); have HO6 := Lib.hid hown'; clear hown' hgrow)
          exact ⟨⟨i + 1, g1, c1, by omega, by go_num, rfl, Lib.hid (by rw [HT.out]; exact HO6.out), hb6⟩, by simp [intOf]; omega⟩
    · obtain rfl : i = 16 := by omega
      have HTX := Lib.hid (own_text (l := N) (by have := HO.out; rw [List.take_of_length_le (by rw [HN.out]; exact Nat.le_refl _)] at this; exact this) HN.out)
      have hcv := HTX.out
      go_wp2
      go_ret
      exact ⟨rfl, hb⟩
end Go.Proofs.YtcecjoodlmpgnaaGreat
/- The contract of the reference's product: the long one. -/
namespace Go.Proofs.YtcecjoodlmpgnaaGreat
open Go.RowKit

theorem lonT_no1 (A B p i : Nat) (h : ¬ i ≤ p) : lonT A B p i = false := by simp [lonT, h]
theorem lonT_no2 (A B p i : Nat) (h : ¬ p < i + 128) : lonT A B p i = false := by simp [lonT, h]
theorem lonT_no3 (A B p i : Nat) (h : A.testBit i = false) : lonT A B p i = false := by simp [lonT, h]
theorem lonT_yes (A B p i : Nat) (h1 : i ≤ p) (h2 : p < i + 128) (h : A.testBit i = true) : lonT A B p i = B.testBit (p - i) := by simp [lonT, h1, h2, h]
theorem par_more (n : Nat) (f : Nat → Bool) : par (n + 1) f = (par n f ^^ f n) := rfl

set_option maxRecDepth 100000 in
set_option maxHeartbeats 8000000 in
theorem product_any (a b : List UInt8) (w : World) (ha : a.length = 16) (hb : b.length = 16) :
    Calls Tryz.prog 107 #[.string ⟨a.toArray⟩, .string ⟨b.toArray⟩] w fun e w' => ∃ g c, e = .returned (.slice (some ⟨g, 0, none⟩) 255 c) ∧ BR w' (some ⟨g, 0, none⟩) 255 (lon (bn a) (bn b)) ∧ 255 ≤ c ∧ Below w.heap.size w w' := by
  obtain ⟨i0, hi0, hz0, hz1, hz2⟩ := info_parts infoL
  have HBA : Hid (∀ i : Nat, i < 128 → ∀ W, Calls Tryz.prog 129 #[.string ⟨a.toArray⟩, .int .i64 (i : Int)] W fun e w' => e = .returned (.bool ((bn a).testBit i)) ∧ W = w') := Lib.hid (fun i hi W => by rw [bn_bit a hi]; exact rBit_any a i 16 W ha (by omega) (by omega))
  have HBB : Hid (∀ i : Nat, i < 128 → ∀ W, Calls Tryz.prog 129 #[.string ⟨b.toArray⟩, .int .i64 (i : Int)] W fun e w' => e = .returned (.bool ((bn b).testBit i)) ∧ W = w') := Lib.hid (fun i hi W => by rw [bn_bit b hi]; exact rBit_any b i 16 W hb (by omega) (by omega))
  have HL : Hid (∀ p, lon (bn a) (bn b) p = par 128 (lonT (bn a) (bn b) p)) := Lib.hid (fun _ => rfl)
  generalize lon (bn a) (bn b) = R at HL ⊢
  generalize bn a = A at HBA HL
  generalize bn b = B at HBB HL
  have HS := Lib.hid (fun n => fb_succ n R)
  have HO0 : Hid ((w.alloc (.cells #[] 4)).ownsRow w.heap.size 4 1 (.slice (some ⟨w.heap.size, 0, none⟩) 0 0) 0 (fb 0 R)) := Lib.hid (gown_nil (Blk.new w _ _) (Nat.le_refl _))
  have hb0 := ba (Below.refl w.heap.size w) (.cells #[] 4)
  clear ha hb
  go_enter Tryz.func107, Tryz.ntmps107
  go_wp2_with fail
  go_loopw [5, 6] (fun ov pv wr => ∃ p g d : Nat, p ≤ 255 ∧ pv = .int .i64 p ∧ ov = .slice (some ⟨g, 0, none⟩) p d ∧ Hid (wr.ownsRow w.heap.size 4 1 (.slice (some ⟨g, 0, none⟩) p d) p (fb p R)) ∧ Below w.heap.size w wr) (fun _ pv _ => 255 - (intOf pv).toNat)
  case atStart => exact ⟨0, _, _, Nat.zero_le _, rfl, rfl, HO0, hb0⟩
  case round =>
    clear HO0 hb0
    obtain ⟨p, g, d, hp, rfl, rfl, HO, hb⟩ := hrel
    by_cases hlt : p < 255
    · have hpl : (p : Int) < 255 := by omega
      have HLP := Lib.hid (HL.out p)
      have HSP := Lib.hid (HS.out p)
      have hz := hb.size
      go_wp2_with fail
      go_loop [7, 8] (fun ov iv => ∃ i : Nat, ∃ o : Bool, i ≤ 128 ∧ iv = .int .i64 i ∧ ov = .bool o ∧ Hid (o = par i (lonT A B p))) (fun _ iv => 128 - (intOf iv).toNat)
      case atStart => exact ⟨0, false, by omega, rfl, rfl, Lib.hid rfl⟩
      case round =>
        obtain ⟨i, o, hi, rfl, rfl, HQ⟩ := hrel
        by_cases hil : i < 128
        · have hii : (i : Int) < 128 := by omega
          have HM := Lib.hid (par_more i (lonT A B p))
          by_cases h1 : i ≤ p
          · obtain ⟨q, hq⟩ : ∃ q, p - i = q := ⟨_, rfl⟩
            have hqi : (p : Int) - (i : Int) = (q : Int) := by omega
            by_cases h2 : p < i + 128
            · have hq128 : (q : Int) < 128 := by omega
              have HCA := Lib.hid (HBA.out i hil)
              cases h3 : A.testBit i
              · have HT := Lib.hid (lonT_no3 A B p i h3)
                rw [h3] at HCA
                have HR : Hid (o = par (i + 1) (lonT A B p)) := Lib.hid (by rw [HM.out, HT.out, ← HQ.out, Bool.xor_false])
                clear h3 h2 h1 hq
                go_wp2_with fail
                refine (HCA.out _).mono ?_
                rintro e w' ⟨rfl, rfl⟩
                go_wp2_with fail
                exact ⟨⟨i + 1, o, by omega, by go_num, rfl, HR⟩, by simp [intOf]; omega⟩
              · have hT := lonT_yes A B p i h1 h2 h3
                rw [hq] at hT
                rw [h3] at HCA
                have HCB := Lib.hid (HBB.out q (by omega))
                cases h4 : B.testBit q
                · rw [h4] at hT HCB
                  have HR : Hid (o = par (i + 1) (lonT A B p)) := Lib.hid (by rw [HM.out, hT, ← HQ.out, Bool.xor_false])
                  clear h4 h3 h2 h1 hq hT
                  go_wp2_with fail
                  refine (HCA.out _).mono ?_
                  rintro e w' ⟨rfl, rfl⟩
                  go_wp2_with fail
                  refine (HCB.out _).mono ?_
                  rintro e w' ⟨rfl, rfl⟩
                  go_wp2_with fail
                  exact ⟨⟨i + 1, o, by omega, by go_num, rfl, HR⟩, by simp [intOf]; omega⟩
                · rw [h4] at hT HCB
                  have HR : Hid ((!o) = par (i + 1) (lonT A B p)) := Lib.hid (by rw [HM.out, hT, ← HQ.out, Bool.xor_true])
                  clear h4 h3 h2 h1 hq hT
                  go_wp2_with fail
                  refine (HCA.out _).mono ?_
                  rintro e w' ⟨rfl, rfl⟩
                  go_wp2_with fail
                  refine (HCB.out _).mono ?_
                  rintro e w' ⟨rfl, rfl⟩
                  go_wp2_with fail
                  exact ⟨⟨i + 1, !o, by omega, by go_num, rfl, HR⟩, by simp [intOf]; omega⟩
            · have hq128 : ¬ (q : Int) < 128 := by omega
              have HT := Lib.hid (lonT_no2 A B p i h2)
              have HR : Hid (o = par (i + 1) (lonT A B p)) := Lib.hid (by rw [HM.out, HT.out, ← HQ.out, Bool.xor_false])
              clear h2 h1 hq
              go_wp2_with fail
              exact ⟨⟨i + 1, o, by omega, by go_num, rfl, HR⟩, by simp [intOf]; omega⟩
          · have hqi : ¬ (0 : Int) ≤ (p : Int) - (i : Int) := by omega
            have hqj : ¬ (i : Int) ≤ (p : Int) := by omega
            have HT := Lib.hid (lonT_no1 A B p i h1)
            have HR : Hid (o = par (i + 1) (lonT A B p)) := Lib.hid (by rw [HM.out, HT.out, ← HQ.out, Bool.xor_false])
            clear h1
            go_wp2_with fail
            exact ⟨⟨i + 1, o, by omega, by go_num, rfl, HR⟩, by simp [intOf]; omega⟩
        · obtain rfl : i = 128 := by omega
          have HRP : Hid (R p = o) := Lib.hid (by rw [HLP.out, HQ.out])
          have hnews := news_new wr [lv o] 4
          clear hil hi
          go_wp2_with (at_builtin; refine wpList_append_own _ rfl _ _ 144 rfl w.heap.size 4 i0 (.bool false) 1 1 Tryz.underlying144 hi0 hz0 hz1 hz2 rfl (by decide) _ _ _ rfl (own_alloc HO.out _) ⟨wr.heap.size, 0, none⟩ 1 1 [lv o] rfl rfl hnews (by simp [Value.oneCell']) (by unfold maxLen; omega) (by omega) (by simp; omega) ?_; intro v' w6 hown' hgrow _; obtain ⟨g1, c1, rfl⟩ := ownsRow_succ hown'; have hb6 : Below w.heap.size w w6 := (ba hb (.cells #[lv o] 4)).grown hgrow (by simp; omega) (fun k e => by cases e; exact (HO.out.lt _ rfl).1); have HO6 := Lib.hid hown'; clear hown' hgrow)
          exact ⟨⟨p + 1, g1, c1, by omega, by go_num, rfl, Lib.hid (by rw [HSP.out, HRP.out]; exact HO6.out), hb6⟩, by simp [intOf]; omega⟩
    · obtain rfl : p = 255 := by omega
      have HX := Lib.hid (own_BR HO.out)
      have HY := Lib.hid (own_BRblk HO.out).2.1
      clear hlt hp
      go_wp2
      go_ret
      exact ⟨g, d, rfl, HX.out, HY.out, hb⟩
end Go.Proofs.YtcecjoodlmpgnaaGreat
/- The contract of a polynomial's times. -/
namespace Go.Proofs.YtcecjoodlmpgnaaGreat
open Go.RowKit

theorem pol_index (B : Nat) {j : Nat} (h : j < 2) (W : World) : (Instr.index 109 (.agg (Pol B)) (.int .i64 (j : Int))).run Tryz.prog W = .ok (qv (wi B j)) W := by
  obtain rfl | rfl : j = 0 ∨ j = 1 := by omega
  · kernel_rfl
  · kernel_rfl
/-- After so many rounds: the product so far, and the left one, raised. -/
def tP (A B k : Nat) : Nat := pA A B k
def tA (A k : Nat) : Nat := gX k A
theorem tP_zero (A B : Nat) : tP A B 0 = 0 := rfl
theorem and_sel {x : Nat} (b : Bool) (h : x < B64) : bits .and .u64 (x : Int) ((msk b : Nat) : Int) = ((sel b x : Nat) : Int) := by
  rw [u64_and_nat x (msk b) h (sel_lt (by decide) (by decide)), and_msk b h]
/-- One round, told once. -/
theorem round_facts (A B k i j : Nat) (hj : j < 2) (hi : i < 64) (hk : 64 * j + i = k) : ∃ (b : Bool),
    ((shW (wi B j) i : Nat) : Int) / 9223372036854775808 = ((onb b : Nat) : Int) ∧
    bits .and .u64 ((w0 (tA A k) : Nat) : Int) ((msk b : Nat) : Int) = ((sel b (w0 (tA A k)) : Nat) : Int) ∧
    bits .and .u64 ((w1 (tA A k) : Nat) : Int) ((msk b : Nat) : Int) = ((sel b (w1 (tA A k)) : Nat) : Int) ∧
    bits .xor .u64 ((w0 (tP A B k) : Nat) : Int) ((sel b (w0 (tA A k)) : Nat) : Int) = ((w0 (tP A B (k + 1)) : Nat) : Int) ∧
    bits .xor .u64 ((w1 (tP A B k) : Nat) : Int) ((sel b (w1 (tA A k)) : Nat) : Int) = ((w1 (tP A B (k + 1)) : Nat) : Int) ∧
    IntKind.u64.wrap (((shW (wi B j) i : Nat) : Int) * 2) = ((shW (wi B j) (i + 1) : Nat) : Int) := by
  refine ⟨B.testBit k, ?_, and_sel _ (w0_lt _), and_sel _ (w1_lt _), ?_, ?_, ?_⟩
  · have := shW_top B hj hi
    rw [hk] at this
    unfold onb
    rw [← this]
    rfl
  · rw [u64_xor_nat _ _ (w0_lt _) (sel_lt (by decide) (w0_lt _)), ← w0_sel, ← w0_xor]; rfl
  · rw [u64_xor_nat _ _ (w1_lt _) (sel_lt (by decide) (w1_lt _)), ← w1_sel, ← w1_xor]; rfl
  · rw [IntKind.wrap_u64, ← shW_more]
    rfl
theorem tA_more (A k : Nat) (w : World) : Calls Tryz.prog 99 #[qv (w0 (tA A k)), qv (w1 (tA A k))] w fun e w' => e = .returned (.tuple #[qv (w0 (tA A (k + 1))), qv (w1 (tA A (k + 1)))]) ∧ w = w' := raised_any _ w
theorem w_nil : w0 0 = 0 ∧ w1 0 = 0 := by decide +kernel

set_option maxRecDepth 100000 in
set_option maxHeartbeats 4000000 in
theorem times_any (A B : Nat) (w : World) (hB : B < B128) :
    Calls Tryz.prog 71 #[.agg (Pol A), .agg (Pol B)] w fun e w' => e = .returned (.agg (Pol (gm A B))) ∧ Below w.heap.size w w' := by
  have HX := Lib.hid (fun (j : Nat) (hj : j < 2) => pol_index B hj)
  have HR := Lib.hid (round_facts A B)
  have HA := Lib.hid (tA_more A)
  have HG : Hid (tP A B 128 = gm A B) := Lib.hid (pA_all hB)
  have HS := Lib.hid (fun j => shW_zero (wi_lt B j))
  have HPL := Lib.hid (plen (gm A B))
  have H00 : Hid (w0 (tP A B 0) = 0 ∧ w1 (tP A B 0) = 0) := Lib.hid w_nil
  have c0 : ∀ g (W : World), Blk W g 109 (Pol A) → W.cell? ⟨g, 0, none⟩ = some (qv (w0 (tA A 0))) ∧ W.cell? ⟨g, 1, none⟩ = some (qv (w1 (tA A 0))) := fun g W h => ⟨h.cell 0, h.cell 1⟩
  have C0 := Lib.hid c0
  have HLB := Lib.hid (plen B)
  clear hB c0
  go_enter Tryz.func71, Tryz.ntmps71
  go_upto_region 2 with fail
  have BA := ((Blk.new w 109 (Pol A)).alloc (.cells (Pol B) 109)).alloc (.cells #[.int .u64 0, .int .u64 0] 109)
  have BB : Blk (((w.alloc (.cells (Pol A) 109)).alloc (.cells (Pol B) 109)).alloc (.cells #[.int .u64 0, .int .u64 0] 109)) (w.heap.size + 1) 109 (Pol B) := (Blk.newAt (by simp) _ _).alloc _
  have BZ : Blk (((w.alloc (.cells (Pol A) 109)).alloc (.cells (Pol B) 109)).alloc (.cells #[.int .u64 0, .int .u64 0] 109)) (w.heap.size + 1 + 1) 109 #[.int .u64 0, .int .u64 0] := Blk.newAt (by simp) _ _
  have hb0 := ba (ba (ba (Below.refl w.heap.size w) (.cells (Pol A) 109)) (.cells (Pol B) 109)) (.cells #[.int .u64 0, .int .u64 0] 109)
  obtain ⟨wm, hwm⟩ : ∃ wm, ((w.alloc (.cells (Pol A) 109)).alloc (.cells (Pol B) 109)).alloc (.cells #[.int .u64 0, .int .u64 0] 109) = wm := ⟨_, rfl⟩
  rw [hwm] at BA BB BZ hb0 ⊢
  have hc0 := (C0.out _ _ BA).1
  have hc1 := (C0.out _ _ BA).2
  have HBB := Lib.hid BB.drew
  have HBZ := Lib.hid BZ.drew
  have hbd := hb0.drew
  have HAZ : Hid (Value.int .u64 0 = qv (w0 (tP A B (64 * 0))) ∧ Value.int .u64 0 = qv (w1 (tP A B (64 * 0)))) := Lib.hid ⟨by rw [Nat.mul_zero, H00.out.1]; rfl, by rw [Nat.mul_zero, H00.out.2]; rfl⟩
  clear hwm BA BB BZ C0 H00 hb0
  go_region
  clear hc0 hc1
  go_wp2_with (refine wpList_load_row rfl _ _ rfl _ rfl _ _ _ _ HBB.out Tryz.underlying109 rfl HLB.out ?_)
  go_loopw [5, 6, 7, 8, 17] (fun fv sv av bv iv wr => ∃ j : Nat, j ≤ 2 ∧ iv = .int .i64 j ∧ fv = qv (w0 (tP A B (64 * j))) ∧ sv = qv (w1 (tP A B (64 * j))) ∧ av = qv (w0 (tA A (64 * j))) ∧ bv = qv (w1 (tA A (64 * j))) ∧ Hid (Blk wr (w.heap.size + 1 + 1) 109 #[.int .u64 0, .int .u64 0]) ∧ Below w.heap.size w wr) (fun _ _ _ _ iv _ => 2 - (intOf iv).toNat)
  case atStart => exact ⟨0, Nat.zero_le _, rfl, HAZ.out.1, HAZ.out.2, rfl, rfl, HBZ, hbd⟩
  case round =>
    clear HBZ HBB hbd HAZ
    obtain ⟨j, hj, rfl, rfl, rfl, rfl, rfl, Z, hb⟩ := hrel
    by_cases hlt : j < 2
    · have hji : (j : Int) < 2 := by omega
      have hix := HX.out j hlt
      have HRJ := Lib.hid (fun k i (h1 : i < 64) (h2 : 64 * j + i = k) => HR.out k i j hlt h1 h2)
      have hs0 := HS.out j
      have HSJ : Hid (qv (wi B j) = qv (shW (wi B j) 0)) := Lib.hid (by rw [hs0])
      have HJE : Hid (64 * j + 64 = 64 * (j + 1)) := Lib.hid (by omega)
      generalize wi B j = x at hix HRJ HSJ
      clear hs0
      go_wp2_with fail
      rw [HSJ.out]
      clear hix
      go_loopw [5, 6, 7, 8, 10, 20] (fun fv sv av bv xv iv wr => ∃ i k : Nat, i ≤ 64 ∧ Hid (64 * j + i = k) ∧ iv = .int .i64 i ∧ xv = qv (shW x i) ∧ fv = qv (w0 (tP A B k)) ∧ sv = qv (w1 (tP A B k)) ∧ av = qv (w0 (tA A k)) ∧ bv = qv (w1 (tA A k)) ∧ Hid (Blk wr (w.heap.size + 1 + 1) 109 #[.int .u64 0, .int .u64 0]) ∧ Below w.heap.size w wr) (fun _ _ _ _ _ iv _ => 64 - (intOf iv).toNat)
      case atStart => exact ⟨0, 64 * j, Nat.zero_le _, Lib.hid rfl, rfl, rfl, rfl, rfl, rfl, rfl, Z, hb⟩
      case round =>
        clear Z hb
        obtain ⟨i, k, hi, HK, rfl, rfl, rfl, rfl, rfl, rfl, Z, hb⟩ := hrel
        by_cases hli : i < 64
        · obtain ⟨b, e1, e2, e3, e4, e5, e6⟩ := HRJ.out k i hli HK.out
          have HRA := Lib.hid (fun W => HA.out k W)
          have HAL := Lib.hid (fun W => allOf_any b W)
          have HK2 : Hid (64 * j + (i + 1) = k + 1) := Lib.hid (by have := HK.out; omega)
          generalize w0 (tP A B k) = p0 at e4 ⊢
          generalize w1 (tP A B k) = p1 at e5 ⊢
          generalize w0 (tA A k) = a0 at e2 e4 HRA ⊢
          generalize w1 (tA A k) = a1 at e3 e5 HRA ⊢
          obtain ⟨s0, hs0⟩ : ∃ s, sel b a0 = s := ⟨_, rfl⟩
          obtain ⟨s1, hs1⟩ : ∃ s, sel b a1 = s := ⟨_, rfl⟩
          rw [hs0] at e2 e4
          rw [hs1] at e3 e5
          obtain ⟨q0, hq0⟩ : ∃ s, w0 (tP A B (k + 1)) = s := ⟨_, rfl⟩
          obtain ⟨q1, hq1⟩ : ∃ s, w1 (tP A B (k + 1)) = s := ⟨_, rfl⟩
          obtain ⟨c0, hc0⟩ : ∃ s, w0 (tA A (k + 1)) = s := ⟨_, rfl⟩
          obtain ⟨c1, hc1⟩ : ∃ s, w1 (tA A (k + 1)) = s := ⟨_, rfl⟩
          obtain ⟨y, hy⟩ : ∃ s, shW x i = s := ⟨_, rfl⟩
          obtain ⟨z, hz⟩ : ∃ s, shW x (i + 1) = s := ⟨_, rfl⟩
          rw [hq0] at e4
          rw [hq1] at e5
          rw [hc0, hc1] at HRA
          rw [hy] at e1 e6 ⊢
          rw [hz] at e6
          generalize onb b = o at e1 HAL
          generalize msk b = m at e2 e3 HAL
          have HQ : Hid (q0 = w0 (tP A B (k + 1)) ∧ q1 = w1 (tP A B (k + 1)) ∧ c0 = w0 (tA A (k + 1)) ∧ c1 = w1 (tA A (k + 1)) ∧ z = shW x (i + 1)) := Lib.hid ⟨hq0.symm, hq1.symm, hc0.symm, hc1.symm, hz.symm⟩
          clear hs0 hs1 hq0 hq1 hc0 hc1 hy hz
          go_wp2_with fail
          refine (HAL.out _).mono ?_
          rintro e w' ⟨rfl, rfl⟩
          go_wp2_with fail
          refine (HRA.out _).mono ?_
          rintro e w' ⟨rfl, rfl⟩
          go_wp2_with fail
          exact ⟨⟨i + 1, k + 1, by omega, HK2, by go_num, by rw [HQ.out.2.2.2.2], by rw [HQ.out.1], by rw [HQ.out.2.1], by rw [HQ.out.2.2.1], by rw [HQ.out.2.2.2.1], Z, hb⟩, by simp [intOf]; omega⟩
        · obtain rfl : i = 64 := by omega
          have hk := HK.out
          rw [HJE.out] at hk
          subst hk
          clear hli hi HK
          go_wp2_with fail
          exact ⟨⟨j + 1, by omega, by go_num, rfl, rfl, rfl, rfl, Z, hb⟩, by simp [intOf]; omega⟩
    · obtain rfl : j = 2 := by omega
      have hg := HG.out
      rw [show 64 * 2 = 128 from rfl, hg]
      have HZ := Z
      obtain ⟨G, hG⟩ : ∃ G, gm A B = G := ⟨_, rfl⟩
      rw [hG] at HPL ⊢
      have HGE := Lib.hid hG
      clear HG hg hG
      go_wp2_with (refine wpList_store_mid rfl _ _ _ rfl _ _ (Pol G) rfl rfl (HZ.out.there (by simp)) HPL.out (by kernel_rfl) ?_)
      have hW := HZ.out.whole (Pol G).toList rfl
      refine bodyPost_ret (v := .agg (Pol G)) (results_cell_row rfl _ _ _ _ _ _ _ rfl hW Tryz.underlying109 rfl HPL.out) rfl ?_
      exact ⟨by rw [HGE.out], bw hb (by omega) _ _⟩
end Go.Proofs.YtcecjoodlmpgnaaGreat
/- Two blocks' product, as texts; and what times 1 is. -/
namespace Go.Proofs.YtcecjoodlmpgnaaGreat
open Go.RowKit

/-- Two blocks' product, as texts. -/
def mulL (a b : List UInt8) : List UInt8 := nb (gm (bn a) (bn b))
theorem mulL_len (a b : List UInt8) : (mulL a b).length = 16 := nb_len _
/-- The block 1. -/
def oneL : List UInt8 := [128, 0, 0, 0, 0, 0, 0, 0, 0, 0, 0, 0, 0, 0, 0, 0]
theorem bn_one : bn oneL = 1 := by decide +kernel
theorem mulL_one (a : List UInt8) (h : a.length = 16) : mulL a oneL = a := by rw [mulL, bn_one, gm_one, nb_bn h]
end Go.Proofs.YtcecjoodlmpgnaaGreat
/- The contract of the reference's Mul: the product. -/
namespace Go.Proofs.YtcecjoodlmpgnaaGreat
open Go.RowKit

theorem step_no (f : Nat → Bool) (p : Nat) (h : f p = false) : stepF f p = f := by simp [stepF, h]
theorem step_yes (f : Nat → Bool) (p : Nat) (h : f p = true) : stepF f p = flipF (flipF (flipF (flipF f (p - 128)) (p - 127)) (p - 126)) (p - 121) := by simp [stepF, h]

theorem BR.at_ {w : World} {g n : Nat} {f : Nat → Bool} (h : BR w (some ⟨g, 0, none⟩) n f) {j : Nat} (hj : j < n) : w.cell? ⟨g, j, none⟩ = some (lv (f j)) := by
  obtain ⟨g', e, h⟩ := h
  cases e
  exact h j hj

set_option maxRecDepth 100000 in
set_option maxHeartbeats 8000000 in
theorem rMul_any (a b : List UInt8) (w : World) (ha : a.length = 16) (hb : b.length = 16) :
    Calls Tryz.prog 80 #[.string ⟨a.toArray⟩, .string ⟨b.toArray⟩] w fun e w' => e = .returned (.string ⟨(mulL a b).toArray⟩) ∧ Below w.heap.size w w' := by
  have HP := Lib.hid (fun W => product_any a b W ha hb)
  have HE : Hid (nb (mkN 128 (down (lon (bn a) (bn b)) 127)) = mulL a b) := Lib.hid (by rw [down_is (bn_lt a) (bn_lt b)]; rfl)
  generalize mulL a b = E at HE ⊢
  generalize lon (bn a) (bn b) = f at HP HE
  have HD0 : Hid (down f 0 = f) := Lib.hid rfl
  have HDS : Hid (∀ j, down f (j + 1) = stepF (down f j) (254 - j)) := Lib.hid (fun _ => rfl)
  generalize down f = D at HD0 HDS HE
  have HFL := Lib.hid (fun A c i f W (hi : i < 255) h => flip_any A c 254 i f W (by omega) hi h)
  have HBY := Lib.hid (fun A c f W h => bytes_any A c f W h)
  clear ha hb
  go_enter Tryz.func80, Tryz.ntmps80
  go_wp2_with fail
  refine (HP.out _).mono ?_
  rintro e w0 ⟨g0, c0, rfl, hr0, hc0, hb0⟩
  have HR0 := Lib.hid hr0
  have HC0 := Lib.hid hc0
  clear hr0 hc0
  go_wp2_with fail
  go_loopw [5, 6] (fun lv pv wr => ∃ j p g c : Nat, Hid (j + p = 254) ∧ Hid (j ≤ 127) ∧ pv = .int .i64 p ∧ lv = .slice (some ⟨g, 0, none⟩) 255 c ∧ Hid (BR wr (some ⟨g, 0, none⟩) 255 (D j)) ∧ Hid (255 ≤ c) ∧ Below w.heap.size w wr) (fun _ pv _ => (intOf pv).toNat)
  case atStart => exact ⟨0, 254, g0, c0, Lib.hid rfl, Lib.hid (by omega), rfl, rfl, Lib.hid (by rw [HD0.out]; exact HR0.out), HC0, hb0⟩
  case round =>
    clear HR0 HC0 hb0
    obtain ⟨j, p, g, c, HJ, HJL, rfl, rfl, HR, HC, hb⟩ := hrel
    by_cases hlt : 128 ≤ p
    · have hpl : (128 : Int) ≤ (p : Int) := by omega
      have hp255 : (p : Int) < 255 := by have := HJ.out; omega
      have hp255' : p < 255 := by omega
      have hcell := HR.out.at_ hp255'
      have HDJ := Lib.hid (HDS.out j)
      have hpj : 254 - j = p := by have := HJ.out; omega
      rw [hpj] at HDJ
      have HJ2 : Hid (j + 1 + (p - 1) = 254) := Lib.hid (by have := HJ.out; omega)
      have HJL2 : Hid (j + 1 ≤ 127) := Lib.hid (by have := HJ.out; omega)
      have hpm : (p : Int) - 1 = ((p - 1 : Nat) : Int) := by omega
      cases hf : D j p
      · rw [hf] at hcell
        have HS := Lib.hid (HDJ.out.trans (step_no (D j) p hf))
        clear hpj hf
        go_wp2_with fail
        exact ⟨⟨j + 1, p - 1, g, c, HJ2, HJL2, by rw [← hpm], rfl, by rw [HS.out]; exact HR, HC, hb⟩, by simp [intOf]; omega⟩
      · rw [hf] at hcell
        have HS := Lib.hid (HDJ.out.trans (step_yes (D j) p hf))
        obtain ⟨q1, hq1⟩ : ∃ q, p - 128 = q := ⟨_, rfl⟩
        obtain ⟨q2, hq2⟩ : ∃ q, p - 127 = q := ⟨_, rfl⟩
        obtain ⟨q3, hq3⟩ : ∃ q, p - 126 = q := ⟨_, rfl⟩
        obtain ⟨q4, hq4⟩ : ∃ q, p - 121 = q := ⟨_, rfl⟩
        rw [hq1, hq2, hq3, hq4] at HS
        have e1 : (p : Int) - 128 = (q1 : Int) := by omega
        have e2 : (p : Int) - 127 = (q2 : Int) := by omega
        have e3 : (p : Int) - 126 = (q3 : Int) := by omega
        have e4 : (p : Int) - 121 = (q4 : Int) := by omega
        have l1 : q1 < 255 := by omega
        have l2 : q2 < 255 := by omega
        have l3 : q3 < 255 := by omega
        have l4 : q4 < 255 := by omega
        clear hpj hf hq1 hq2 hq3 hq4
        go_wp2_with fail
        refine (HFL.out _ c q1 _ _ l1 HR.out).mono ?_
        rintro e x1 ⟨g1, c1, rfl, hr1, _, hb1⟩
        have HR1 := Lib.hid hr1
        have hB1 := bt hb hb1
        clear hr1 hb1
        go_wp2_with fail
        refine (HFL.out _ c1 q2 _ _ l2 HR1.out).mono ?_
        rintro e x2 ⟨g2, c2, rfl, hr2, _, hb2⟩
        have HR2 := Lib.hid hr2
        have hB2 := bt hB1 hb2
        clear hr2 hb2 HR1 hB1
        go_wp2_with fail
        refine (HFL.out _ c2 q3 _ _ l3 HR2.out).mono ?_
        rintro e x3 ⟨g3, c3, rfl, hr3, _, hb3⟩
        have HR3 := Lib.hid hr3
        have hB3 := bt hB2 hb3
        clear hr3 hb3 HR2 hB2
        go_wp2_with fail
        refine (HFL.out _ c3 q4 _ _ l4 HR3.out).mono ?_
        rintro e x4 ⟨g4, c4, rfl, hr4, hc4, hb4⟩
        have HR4 := Lib.hid hr4
        have HC4 := Lib.hid hc4
        have hB4 := bt hB3 hb4
        clear hr4 hb4 HR3 hB3 hc4
        go_wp2_with fail
        exact ⟨⟨j + 1, p - 1, g4, c4, HJ2, HJL2, by rw [← hpm], rfl, by rw [HS.out]; exact HR4, HC4, hB4⟩, by simp [intOf]; omega⟩
    · have hpl : ¬ (128 : Int) ≤ (p : Int) := by omega
      have hj : j = 127 := by have h1 := HJ.out; have h2 := HJL.out; omega
      rw [hj] at HR
      have HB := Lib.hid (fun W h => HBY.out (some ⟨g, 0, none⟩) c (D 127) W h)
      rw [HE.out] at HB
      have HRL := Lib.hid (HR.out.less (m := 128) (by omega))
      have hc := HC.out
      clear hj hlt
      go_wp2_with fail
      refine (HB.out _ HRL.out).mono ?_
      rintro e x1 ⟨rfl, hb1⟩
      go_wp2_with fail
      go_ret
      exact ⟨rfl, bt hb hb1⟩
end Go.Proofs.YtcecjoodlmpgnaaGreat
