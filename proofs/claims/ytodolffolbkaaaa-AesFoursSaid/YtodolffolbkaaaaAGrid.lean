/- A block's columns; the contracts of gridOf and of a grid's mixed. -/
import Derived.Test.YtodolffolbkaaaaARKey
namespace Go.Proofs.Ytodolffolbkaaaa
open Go.RowKit

theorem list16 {L : List UInt8} (h : L.length = 16) : ∃ a b c d e f g h i j k l m n o p, L = [a, b, c, d, e, f, g, h, i, j, k, l, m, n, o, p] := by
  match L, h with
  | [a, b, c, d, e, f, g, h, i, j, k, l, m, n, o, p], _ => exact ⟨a, b, c, d, e, f, g, h, i, j, k, l, m, n, o, p, rfl⟩
theorem gcol_at (G : List UInt8) (hG : G.length = 16) (c : Nat) (hc : c < 4) (W : World) : (Instr.index 45 (.agg (G.map uv).toArray) (.int .i64 (c : Int))).run Try.prog W = .ok (.agg #[uv (ub G (c * 4)), uv (ub G (c * 4 + 1)), uv (ub G (c * 4 + 2)), uv (ub G (c * 4 + 3))]) W := by
  obtain ⟨g0, g1, g2, g3, g4, g5, g6, g7, g8, g9, g10, g11, g12, g13, g14, g15, rfl⟩ := list16 hG
  obtain rfl | rfl | rfl | rfl : c = 0 ∨ c = 1 ∨ c = 2 ∨ c = 3 := by omega
  all_goals kernel_rfl
theorem glen {L : List UInt8} (h : L.length = 16) : (Try.prog.info? 45).map (·.size) = some ((L.map uv).toArray).size := by
  rw [List.size_toArray, List.length_map, h]; kernel_rfl
theorem gzero : #[.int .u8 0, .int .u8 0, .int .u8 0, .int .u8 0, .int .u8 0, .int .u8 0, .int .u8 0, .int .u8 0, .int .u8 0, .int .u8 0, .int .u8 0, .int .u8 0, .int .u8 0, .int .u8 0, .int .u8 0, .int .u8 0] = ((zerosL 16).map uv).toArray := by kernel_rfl
theorem gthere {w : World} {g : Nat} {t : TypeId} {L M : List UInt8} (h : Blk w g t (L.map uv).toArray) (hl : L.length = 16) (hm : M.length = 16) : w.there g 0 (M.map uv).toArray.size := h.there (by rw [uvs_size, uvs_size, hl, hm]; exact Nat.le_refl _)
theorem put4' {w : World} {g : Nat} {t : TypeId} {N M : List UInt8} {n k : Nat} {a b c d : UInt8} (h : Blk w g t ((cutL k N M).map uv).toArray) (hn : N.length = n) (hm : M.length = n) (hk : k + 4 ≤ n)
    (e : [a, b, c, d] = [ub N k, ub N (k + 1), ub N (k + 2), ub N (k + 3)]) : Blk (w.setCells g k [uv a, uv b, uv c, uv d]) g t ((cutL (k + 4) N M).map uv).toArray := by
  simp only [List.cons.injEq] at e
  obtain ⟨rfl, rfl, rfl, rfl, -⟩ := e
  exact put4 h hn hm hk

set_option maxRecDepth 100000 in
set_option maxHeartbeats 1000000 in
theorem gridOf_any (l : List UInt8) (w : World) (hl : l.length = 16) :
    Calls Try.prog 37 #[.string ⟨l.toArray⟩] w fun e w' => e = .returned (.agg (l.map uv).toArray) ∧ Below w.heap.size w w' := by
  have HL := Lib.hid hl
  have HZ := Lib.hid (zerosL_len 16)
  have HE := Lib.hid (fun c => extract_drop l c 16 hl)
  have hsz := size_of l
  rw [hl] at hsz
  have H0 : Hid (((zerosL 16).map uv).toArray = ((cutL (0 * 4) l (zerosL 16)).map uv).toArray) := Lib.hid (by rw [Nat.zero_mul, cutL_zero])
  have HG := Lib.hid gzero
  obtain ⟨Z, hZ⟩ : ∃ Z, zerosL 16 = Z := ⟨_, rfl⟩
  rw [hZ] at HZ H0 HG
  clear hZ hl
  go_enter Try.func37, Try.ntmps37
  go_wp2_with fail
  rw [HG.out]
  have R0 := Lib.hid ((Blk.new w 45 (Z.map uv).toArray).alloc (.cells (Z.map uv).toArray 45))
  have B0 : Hid (Blk ((w.alloc (.cells (Z.map uv).toArray 45)).alloc (.cells (Z.map uv).toArray 45)) (w.heap.size + 1) 45 (Z.map uv).toArray) := Lib.hid (Blk.newAt (by simp) _ _)
  have hb0 := ba (ba (Below.refl w.heap.size w) (.cells (Z.map uv).toArray 45)) (.cells (Z.map uv).toArray 45)
  generalize (w.alloc (.cells (Z.map uv).toArray 45)).alloc (.cells (Z.map uv).toArray 45) = w1 at R0 B0 hb0
  rw [H0.out] at B0
  go_loopw [5] (fun iv wr => ∃ i : Nat, i ≤ 4 ∧ iv = .int .i64 i ∧ Hid (Blk wr w.heap.size 45 (Z.map uv).toArray) ∧ Hid (Blk wr (w.heap.size + 1) 45 ((cutL (i * 4) l Z).map uv).toArray) ∧ Below w.heap.size w wr) (fun iv _ => 4 - (intOf iv).toNat)
  case atStart => exact ⟨0, Nat.zero_le _, rfl, R0, B0, hb0⟩
  case round =>
    clear R0 B0 hb0
    obtain ⟨c, hc, rfl, R, B, hb⟩ := hrel
    by_cases hlt : c < 4
    · have hcl : (c : Int) < 4 := by omega
      obtain ⟨s, hs⟩ : ∃ s : Nat, c * 4 = s := ⟨_, rfl⟩
      have hcs : (c : Int) * 4 = (s : Int) := by omega
      have hs2 : (s : Int) ≤ 16 := by omega
      have hex := HE.out s
      have HWO := Lib.hid (fun W => wordOf_any (l.drop (c * 4)) W (by rw [List.length_drop, HL.out]; omega))
      rw [ub_drop, ub_drop, ub_drop, ub_drop] at HWO
      have HP := Lib.hid (fun (W : World) (t : TypeId) (hB : Blk W (w.heap.size + 1) t ((cutL (c * 4) l Z).map uv).toArray) => put4 hB HL.out HZ.out (by omega))
      rw [Nat.add_zero] at HWO
      generalize ub l (c * 4) = n0 at HWO HP
      generalize ub l (c * 4 + 1) = n1 at HWO HP
      generalize ub l (c * 4 + 2) = n2 at HWO HP
      generalize ub l (c * 4 + 3) = n3 at HWO HP
      have HSE : Hid (c * 4 + 4 = (c + 1) * 4) := Lib.hid (by omega)
      have HLC : Hid ((cutL (c * 4) l Z).length = 16) := Lib.hid (cutL_len HL.out HZ.out (by omega))
      rw [hs] at HWO
      clear hs
      go_wp2_with fail
      refine (HWO.out _).mono ?_
      rintro e w2 ⟨rfl, hb2⟩
      have B2 := Lib.hid (B.out.below hb2)
      have R2 := Lib.hid (R.out.below hb2)
      have hB2 := bt hb hb2
      clear B R hb hb2 hex
      have hz := hB2.size
      have HTH : Hid (w2.there (w.heap.size + 1) (c * 4) (([n0, n1, n2, n3].map uv).toArray).size) := Lib.hid (B2.out.spare (by rw [uvs_size, uvs_size, HLC.out]; simp; omega))
      simp only []
      have B3 := Lib.hid (HP.out _ _ B2.out)
      have R3 := Lib.hid (R2.out.far_ (k := w.heap.size) (g := w.heap.size + 1) (by omega) (c * 4) [uv n0, uv n1, uv n2, uv n3])
      have hb3 := bw hB2 (g := w.heap.size + 1) (by omega) (c * 4) [uv n0, uv n1, uv n2, uv n3]
      rw [HSE.out] at B3
      go_upto_region 6 with (refine wpList_store_mid rfl _ _ _ rfl (w.heap.size + 1) (c * 4) ([n0, n1, n2, n3].map uv).toArray rfl rfl HTH.out (by kernel_rfl) (all_oneCell_toArray (uvs_one [n0, n1, n2, n3])) ?_)
      have hset : w2.setCells (w.heap.size + 1) (c * 4) [uv n0, uv n1, uv n2, uv n3] = w2.setCells (w.heap.size + 1) (c * 4) ([n0, n1, n2, n3].map uv) := rfl
      rw [hset] at B3 R3 hb3
      generalize w2.setCells (w.heap.size + 1) (c * 4) ([n0, n1, n2, n3].map uv) = w3 at B3 R3 hb3
      clear hset HTH B2 R2 hB2
      go_wp2_with fail
      exact ⟨⟨c + 1, by omega, by go_num, R3, B3, hb3⟩, by simp [intOf]; omega⟩
    · obtain rfl : c = 4 := by omega
      have hB := B.out
      rw [show 4 * 4 = 16 from rfl, cutL_all HL.out HZ.out] at hB
      have HBN := Lib.hid hB
      have HONE := Lib.hid (uvs_one l)
      clear hB B
      go_wp2_with (first | (refine wpList_load_row rfl _ _ rfl _ rfl _ _ _ _ HBN.out Try.underlying45 rfl (glen HL.out) ?_) | (refine wpList_store_mid rfl _ _ _ rfl _ _ (l.map uv).toArray rfl rfl (gthere R.out HZ.out HL.out) (glen HL.out) (all_oneCell_toArray HONE.out) ?_))
      have hW := R.out.whole (l.map uv) (by rw [List.length_map, uvs_size, HL.out, HZ.out])
      refine bodyPost_ret (v := .agg (l.map uv).toArray) (results_cell_row rfl _ _ _ _ _ _ _ rfl hW Try.underlying45 rfl (glen HL.out)) rfl ?_
      exact ⟨rfl, bw hb (by omega) _ _⟩
end Go.Proofs.Ytodolffolbkaaaa
