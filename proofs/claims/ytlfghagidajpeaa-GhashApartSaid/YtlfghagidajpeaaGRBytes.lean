/- The contract of the reference's bytes. -/
import Derived.Test.YtlfghagidajpeaaGRFlip
import Derived.Test.YtlfghagidajpeaaGTold
namespace Go.Proofs.Ytlfghagidajpeaa
open Go.RowKit

theorem ginfo5 : (Try.prog.info? 5).map (fun i => (i.zero, i.size, i.bytes)) = some (some (.int .u8 0), 1, 1) := by kernel_rfl
theorem gtake_ub (N : List UInt8) (k : Nat) (h : k < N.length) : N.take (k + 1) = N.take k ++ [ub N k] := by
  rw [ub_at h, List.take_append_getElem h]
theorem gtake_map (N : List UInt8) (k : Nat) (h : k < N.length) : (N.take (k + 1)).map uv = (N.take k).map uv ++ [uv (ub N k)] := by
  rw [gtake_ub N k h, List.map_append]; rfl

set_option maxRecDepth 100000 in
set_option maxHeartbeats 4000000 in
theorem bytes_any (A : Option Addr) (c : Nat) (f : Nat → Bool) (w : World) (h : BR w A 128 f) :
    Calls Try.prog 23 #[.slice A 128 c] w fun e w' => e = .returned (.string ⟨(nb (mkN 128 f)).toArray⟩) ∧ Below w.heap.size w w' := by
  obtain ⟨i0, hi0, hz0, hz1, hz2⟩ := info_parts ginfo5
  obtain ⟨a, rfl, hA⟩ := h
  have HA := Lib.hid hA
  have HN := Lib.hid (nb_len (mkN 128 f))
  have HU : Hid (∀ i, i < 16 → (ub (nb (mkN 128 f)) i).toNat = byF (fun k => f (8 * i + k)) 8) := Lib.hid (fun i hi => by rw [byF_by8 f hi]; unfold nb; rw [ub_tab _ hi])
  have HBL := Lib.hid byF_lt
  obtain ⟨N, hN⟩ : ∃ N, nb (mkN 128 f) = N := ⟨_, rfl⟩
  rw [hN] at HN HU ⊢
  have HTK := Lib.hid (fun k (hk : k < 16) => gtake_map N k (by rw [HN.out]; exact hk))
  have HO0 : Hid ((w.alloc (.cells #[] 5)).ownsRow w.heap.size 5 1 (.slice (some ⟨w.heap.size, 0, none⟩) 0 0) 0 ((N.take 0).map uv)) := Lib.hid (gown_nil (Blk.new w _ _) (Nat.le_refl _))
  have hb0 := ba (Below.refl w.heap.size w) (.cells #[] 5)
  clear hN hA
  go_enter Try.func23, Try.ntmps23
  go_wp2_with fail
  go_loopw [3, 4] (fun ov iv wr => ∃ i g d : Nat, i ≤ 16 ∧ iv = .int .i64 i ∧ ov = .slice (some ⟨g, 0, none⟩) i d ∧ Hid (wr.ownsRow w.heap.size 5 1 (.slice (some ⟨g, 0, none⟩) i d) i ((N.take i).map uv)) ∧ Below w.heap.size w wr) (fun _ iv _ => 16 - (intOf iv).toNat)
  case atStart => exact ⟨0, _, _, Nat.zero_le _, rfl, rfl, HO0, hb0⟩
  case round =>
    clear HO0 hb0
    obtain ⟨i, g, d, hi, rfl, rfl, HO, hb⟩ := hrel
    by_cases hlt : i < 16
    · have hil : (i : Int) < 16 := by omega
      have HT := Lib.hid (HTK.out i hlt)
      have hu := HU.out i hlt
      have HAI : Hid (∀ k, k < 8 → wr.cell? ⟨a, 8 * i + k, none⟩ = some (lv (f (8 * i + k)))) := Lib.hid (fun k hk => cell_later hb (HA.out (8 * i + k) (by omega)))
      have HF : Hid (∀ k, byF (fun k => f (8 * i + k)) (k + 1) = 2 * byF (fun k => f (8 * i + k)) k + (if f (8 * i + k) then 1 else 0)) := Lib.hid (fun _ => rfl)
      have HF0 : Hid (byF (fun k => f (8 * i + k)) 0 = 0) := Lib.hid rfl
      have HL := Lib.hid (fun k => HBL.out (fun k => f (8 * i + k)) k)
      generalize byF (fun k => f (8 * i + k)) = F at hu HF HF0 HL
      have HUU := Lib.hid hu
      have hz := hb.size
      clear hu
      go_wp2_with fail
      go_loop [5, 6] (fun nv kv => ∃ k n : Nat, k ≤ 8 ∧ n < 256 ∧ kv = .int .i64 k ∧ nv = .int .i64 n ∧ Hid (F k = n)) (fun _ kv => 8 - (intOf kv).toNat)
      case atStart => exact ⟨0, 0, by omega, by omega, rfl, rfl, HF0⟩
      case round =>
        obtain ⟨k, n, hk, hn, rfl, rfl, HK⟩ := hrel
        by_cases hkl : k < 8
        · have hki : (k : Int) < 8 := by omega
          have hcell := HAI.out k hkl
          have hFk := HF.out k
          rw [HK.out] at hFk
          have h256 : F (k + 1) < 256 := by
            have h1 := HL.out (k + 1)
            have h2 : 2 ^ (k + 1) ≤ 2 ^ 8 := Nat.pow_le_pow_right (by omega) (by omega)
            omega
          cases hb9 : f (8 * i + k)
          · rw [hb9] at hcell hFk
            have HFK : Hid (F (k + 1) = 2 * n) := Lib.hid (by rw [hFk]; simp)
            rw [HFK.out] at h256
            clear hFk hb9
            go_wp2_with fail
            exact ⟨⟨k + 1, 2 * n, by omega, h256, by go_num, by go_num, HFK⟩, by simp [intOf]; omega⟩
          · rw [hb9] at hcell hFk
            have HFK : Hid (F (k + 1) = 2 * n + 1) := Lib.hid (by rw [hFk]; simp)
            rw [HFK.out] at h256
            clear hFk hb9
            go_wp2_with fail
            exact ⟨⟨k + 1, 2 * n + 1, by omega, h256, by go_num, by go_num, HFK⟩, by simp [intOf]; omega⟩
        · obtain rfl : k = 8 := by omega
          have he := HUU.out
          rw [HK.out] at he
          have hw8 : IntKind.u8.wrap (n : Int) = (((ub N i).toNat : Nat) : Int) := by rw [IntKind.wrap_u8, he]; omega
          generalize ub N i = y at he HT hw8
          clear hkl hk he
          have hnews := news_new wr [uv y] 5
          go_wp2_with (at_builtin; refine wpList_append_own _ rfl _ _ 35 rfl w.heap.size 5 i0 (.int .u8 0) 1 1 Try.underlying35 hi0 hz0 hz1 hz2 rfl (by decide) _ _ _ rfl (own_alloc HO.out _) ⟨wr.heap.size, 0, none⟩ 1 1 [uv y] rfl rfl hnews (by simp [Value.oneCell']) (by unfold maxLen; omega) (by omega) (by simp; omega) ?_; intro v' w6 hown' hgrow _; obtain ⟨g1, c1, rfl⟩ := ownsRow_succ hown'; have hb6 : Below w.heap.size w w6 := (ba hb (.cells #[uv y] 5)).grown hgrow (by simp; omega) (fun k e => by cases e; exact (HO.out.lt _ rfl).1); have HO6 := Lib.hid hown'; clear hown' hgrow)
          exact ⟨⟨i + 1, g1, c1, by omega, by go_num, rfl, Lib.hid (by rw [HT.out]; exact HO6.out), hb6⟩, by simp [intOf]; omega⟩
    · obtain rfl : i = 16 := by omega
      have HTX := Lib.hid (own_text (l := N) (by have := HO.out; rw [List.take_of_length_le (by rw [HN.out]; exact Nat.le_refl _)] at this; exact this) HN.out)
      have hcv := HTX.out
      go_wp2
      go_ret
      exact ⟨rfl, hb⟩
end Go.Proofs.Ytlfghagidajpeaa
