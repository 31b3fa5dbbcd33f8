/- The contracts of a word's turned, xor and boxed. -/
import Derived.Test.YtodolffolbkaaaaAMath
namespace Go.Proofs.Ytodolffolbkaaaa
open Go.RowKit

theorem agg4_at (a b c d : UInt8) (k : Nat) (hk : k < 4) (W : World) : (Instr.index 43 (.agg #[uv a, uv b, uv c, uv d]) (.int .i64 (k : Int))).run Try.prog W = .ok (uv (ub [a, b, c, d] k)) W := by
  obtain rfl | rfl | rfl | rfl : k = 0 ∨ k = 1 ∨ k = 2 ∨ k = 3 := by omega
  all_goals kernel_rfl
theorem wlen {L : List UInt8} (h : L.length = 4) : (Try.prog.info? 43).map (·.size) = some ((L.map uv).toArray).size := by
  rw [List.size_toArray, List.length_map, h]; kernel_rfl
theorem wlen' {L : List UInt8} (h : L.length = 4) : (Try.prog.info? 43).map (·.size) = some ((L.map uv)).length := by
  rw [List.length_map, h]; kernel_rfl

set_option maxRecDepth 100000 in
set_option maxHeartbeats 1000000 in
theorem turned_any (a b c d : UInt8) (w : World) :
    Calls Try.prog 58 #[.agg #[uv a, uv b, uv c, uv d]] w fun e w' => e = .returned (.agg #[uv b, uv c, uv d, uv a]) ∧ Below w.heap.size w w' := by
  go_enter Try.func58, Try.ntmps58
  go_wp2
  refine bodyPost_ret (v := .agg #[uv b, uv c, uv d, uv a]) (results_cell_row rfl _ _ _ _ _ _ _ rfl (Blk.newAt (by simp) _ _) Try.underlying43 rfl (by kernel_rfl)) rfl ?_
  exact ⟨rfl, ba (ba (Below.refl _ _) _) _⟩

set_option maxRecDepth 100000 in
set_option maxHeartbeats 1000000 in
theorem xor_any (a b c d a' b' c' d' : UInt8) (w : World) :
    Calls Try.prog 52 #[.agg #[uv a, uv b, uv c, uv d], .agg #[uv a', uv b', uv c', uv d']] w fun e w' => e = .returned (.agg ((xorW [a, b, c, d] [a', b', c', d']).map uv).toArray) ∧ Below w.heap.size w w' := by
  have HI := Lib.hid (agg4_at a' b' c' d')
  have hA : [a, b, c, d].length = 4 := rfl
  have HA := Lib.hid hA
  have HN : Hid ((xorW [a, b, c, d] [a', b', c', d']).length = 4) := Lib.hid (tab_len _ _)
  have HU : Hid (∀ k, k < 4 → ub (xorW [a, b, c, d] [a', b', c', d']) k = ub [a, b, c, d] k ^^^ ub [a', b', c', d'] k) := Lib.hid fun k hk => ub_tab _ hk
  obtain ⟨N, hN⟩ : ∃ N, xorW [a, b, c, d] [a', b', c', d'] = N := ⟨_, rfl⟩
  rw [hN] at HN HU ⊢
  obtain ⟨B, hB⟩ : ∃ B, [a', b', c', d'] = B := ⟨_, rfl⟩
  rw [hB] at HI HU
  have H0 : Hid (((cutL 0 N [a, b, c, d]).map uv).toArray = #[uv a, uv b, uv c, uv d]) := Lib.hid (by rw [cutL_zero]; rfl)
  obtain ⟨A, hA'⟩ : ∃ A, [a, b, c, d] = A := ⟨_, rfl⟩
  rw [hA'] at HA HU H0
  clear hN hB hA' hA
  go_enter Try.func52, Try.ntmps52
  go_wp2_with fail
  go_loopw [8] (fun iv wr => ∃ k : Nat, k ≤ 4 ∧ iv = .int .i64 k ∧ Hid (Blk wr w.heap.size 43 ((cutL k N A).map uv).toArray) ∧ Hid (Blk wr (w.heap.size + 2) 43 #[uv 0, uv 0, uv 0, uv 0]) ∧ Below w.heap.size w wr) (fun iv _ => 4 - (intOf iv).toNat)
  case atStart =>
    refine ⟨0, by omega, rfl, Lib.hid ?_, Lib.hid ?_, ba (ba (ba (Below.refl _ _) _) _) _⟩
    · rw [H0.out]; exact ((Blk.new w _ _).alloc _).alloc _
    · exact Blk.newAt (by simp) _ _
  case round =>
    obtain ⟨k, hk, rfl, P, Z, hb⟩ := hrel
    by_cases hlt : k < 4
    · have hix := HI.out k hlt
      have hc := (P.out.cell k).trans (row_at (by rw [cutL_len HN.out HA.out hk]; exact hlt))
      rw [ub_cutL HN.out HA.out hk hlt, if_neg (Nat.lt_irrefl _)] at hc
      have hf := P.out.frozen k
      have hset := cutL_set HN.out HA.out hlt
      rw [HU.out k hlt] at hset
      have hx := xor_byte (ub A k) (ub B k)
      generalize ub A k = x at hc hset hx
      generalize ub B k = y at hix hset hx
      obtain ⟨z, hz⟩ : ∃ z, x ^^^ y = z := ⟨_, rfl⟩
      rw [hz] at hset hx
      have HS := Lib.hid hset
      have i0 : (0 : Int) ≤ (k : Int) := by omega
      have i1 : (k : Int) < 4 := by omega
      clear hset hz
      go_wp2
      exact ⟨⟨k + 1, by omega, by go_num, Lib.hid (by have := P.out.set_ k (uv z); rw [HS.out] at this; exact this), Lib.hid (Z.out.far (by simp) _), bs hb (by omega) _⟩, by simp [intOf]; omega⟩
    · obtain rfl : k = 4 := by omega
      have hP := P.out
      rw [cutL_all HN.out HA.out] at hP
      have HONE := Lib.hid (uvs_one N)
      have HZ := HN.out
      go_wp2_with (first | (refine wpList_load_row rfl _ _ rfl _ rfl _ _ _ _ hP Try.underlying43 rfl (wlen HN.out) ?_) | (refine wpList_store_mid rfl _ _ _ rfl _ _ (N.map uv).toArray rfl rfl (Z.out.there (by rw [List.size_toArray, List.length_map, HN.out]; exact Nat.le_refl 4)) (wlen HN.out) (all_oneCell_toArray HONE.out) ?_))
      have hW := Z.out.whole (N.map uv) (by rw [List.length_map, HN.out]; rfl)
      refine bodyPost_ret (v := .agg (N.map uv).toArray) (results_cell_row rfl _ _ _ _ _ _ _ rfl hW Try.underlying43 rfl (wlen HN.out)) rfl ?_
      exact ⟨rfl, bw hb (by omega) _ _⟩
end Go.Proofs.Ytodolffolbkaaaa
