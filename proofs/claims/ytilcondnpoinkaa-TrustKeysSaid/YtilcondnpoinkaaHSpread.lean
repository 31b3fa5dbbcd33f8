/- The contract of spread: a block's words. -/
import Derived.Test.YtilcondnpoinkaaHArr
import Derived.Test.YtilcondnpoinkaaHWord
import Derived.Lib.SlBytesRow
namespace Go.Proofs.Ytilcondnpoinkaa
open Go.RowKit

/-- So many of a block's words, and zeros behind them. -/
def srow (B : List UInt8) (t : Nat) : Array Value := ((sched B t ++ List.replicate (64 - t) 0).map wv).toArray
theorem srow_size (B : List UInt8) (t : Nat) (h : t ≤ 64) : (srow B t).size = 64 := by
  simp [srow, sched_len]; omega
theorem srow_set (B : List UInt8) (t x : Nat) (h : t < 64) (hx : x = (if t < 16 then wordAt B t else nextW (sched B t) t)) : (srow B t).setIfInBounds t (wv x) = srow B (t + 1) := by
  unfold srow
  obtain ⟨r, hr⟩ : ∃ r, 64 - t = r + 1 := ⟨64 - t - 1, by omega⟩
  have hr' : 64 - (t + 1) = r := by omega
  have hl := sched_len B t
  rw [hr, hr', sched, ← hx]
  generalize sched B t = S at hl
  subst hl
  simp [List.replicate_succ]
theorem srow_at (B : List UInt8) (t : Nat) (h : t < 64) : (srow B t)[t]? = some (wv 0) := by
  unfold srow
  obtain ⟨r, hr⟩ : ∃ r, 64 - t = r + 1 := ⟨64 - t - 1, by omega⟩
  have hl := sched_len B t
  rw [hr]
  generalize sched B t = S at hl
  subst hl
  simp [List.replicate_succ]
theorem srow_old (B : List UInt8) (t j : Nat) (h : j < t) : (srow B t)[j]? = some (wv (wn (sched B t) j)) := by
  unfold srow
  have hl := sched_len B t
  have hj : j < (sched B t).length := by omega
  rw [wn_get _ _ hj]
  have hj' : j < ((sched B t).map wv).length := by simpa using hj
  rw [List.map_append, List.getElem?_toArray, List.getElem?_append_left hj', List.getElem?_map, List.getElem?_eq_getElem hj]
  rfl
theorem srow_all (B : List UInt8) : srow B 64 = ((sched B 64).map wv).toArray := by simp [srow]

theorem word_of (B : List UInt8) (t : Nat) (hB : B.length = 64) (ht : t < 16) (w : World) :
    Calls Try.prog 76 #[.string ((⟨B.toArray⟩ : ByteArray).extract (t * 4) 64)] w fun e w' => e = .returned (.int .u32 (wordAt B t : Nat)) ∧ ∃ q, w' = w.drewN q := by
  have hs : ((⟨B.toArray⟩ : ByteArray).extract (t * 4) 64) = ⟨(B.drop (t * 4)).toArray⟩ := by
    apply ByteArray.ext
    apply Array.toList_inj.1
    rw [Lib.extract_data]
    exact List.take_of_length_le (by simp [hB])
  obtain ⟨b0, b1, b2, b3, r, hr⟩ : ∃ b0 b1 b2 b3 r, B.drop (t * 4) = b0 :: b1 :: b2 :: b3 :: r := by
    have hl : (B.drop (t * 4)).length = 64 - t * 4 := by simp [hB]
    match h : B.drop (t * 4), hl with
    | b0 :: b1 :: b2 :: b3 :: r, _ => exact ⟨b0, b1, b2, b3, r, rfl⟩
    | [], hl => simp at hl; omega
    | [_], hl => simp at hl; omega
    | [_, _], hl => simp at hl; omega
    | [_, _, _], hl => simp at hl; omega
  have hat : ∀ j, B.getD (4 * t + j) 0 = (B.drop (t * 4)).getD j 0 := fun j => by simp [List.getD, Nat.mul_comm]
  have hw : wordAt B t = b0.toNat * 16777216 + b1.toNat * 65536 + b2.toNat * 256 + b3.toNat := by
    have h0 := hat 0
    have h1 := hat 1
    have h2 := hat 2
    have h3 := hat 3
    rw [hr] at h0 h1 h2 h3
    rw [Nat.add_zero] at h0
    unfold wordAt
    rw [h0, h1, h2, h3]
    rfl
  rw [hs, hr, hw]
  exact wordS_any ⟨(b0 :: b1 :: b2 :: b3 :: r).toArray⟩ (by simp [ByteArray.size]) w

theorem sigO_int (x : Nat) (h : x < 4294967296) : bits .xor .u32 (bits .xor .u32 ((ror x 7 : Nat) : Int) ((ror x 18 : Nat) : Int)) ((x : Int) / 8) = ((sigO x : Nat) : Int) := by
  rw [show (x : Int) / 8 = ((x / 8 : Nat) : Int) by simp, u32_xor_nat _ _ (ror_lt _ _ h) (ror_lt _ _ h), u32_xor_nat _ _ (xor_lt (ror_lt _ _ h) (ror_lt _ _ h)) (by omega)]
  rfl
theorem sigI_int (x : Nat) (h : x < 4294967296) : bits .xor .u32 (bits .xor .u32 ((ror x 17 : Nat) : Int) ((ror x 19 : Nat) : Int)) ((x : Int) / 1024) = ((sigI x : Nat) : Int) := by
  rw [show (x : Int) / 1024 = ((x / 1024 : Nat) : Int) by simp, u32_xor_nat _ _ (ror_lt _ _ h) (ror_lt _ _ h), u32_xor_nat _ _ (xor_lt (ror_lt _ _ h) (ror_lt _ _ h)) (by omega)]
  rfl
theorem cror_k (x n : Nat) (k : Int) (w : World) (hx : x < 4294967296) (hk : (n : Int) = k) (h1 : 1 ≤ n) (h2 : n ≤ 31) :
    Calls Try.prog 66 #[.int .u32 (x : Int), .int .i64 k] w fun e w' => e = .returned (.int .u32 (ror x n : Nat)) ∧ w = w' := by
  subst hk
  exact cror_any x n _ (by omega) h1 h2

set_option maxRecDepth 100000 in
set_option maxHeartbeats 4000000 in
theorem spread_any (B : List UInt8) (hB : B.length = 64) (w : World) :
    Calls Try.prog 65 #[.string ⟨B.toArray⟩] w fun e w' => e = .returned (.agg ((sched B 64).map wv).toArray) ∧ Below w.heap.size w w' := by
  have hz := size_of B
  rw [hB] at hz
  have HB := Lib.hid hB
  have HZ := Lib.hid hz
  have hcs : (srow B 64) = ((sched B 64).map wv).toArray := srow_all B
  have hsz : ((sched B 64).map wv).length = 64 := by rw [List.length_map, sched_len]
  have hone := words_one (sched B 64)
  obtain ⟨L, hL⟩ : ∃ L, (sched B 64).map wv = L := ⟨_, rfl⟩
  rw [hL] at hcs hsz hone ⊢
  have HSZ := Lib.hid hsz
  have HONE := Lib.hid hone
  have HCS := Lib.hid hcs
  clear hB hz hcs hsz hone hL
  go_enter Try.func65, Try.ntmps65
  go_wp2_with fail
  go_loopw [10] (fun iv wr => ∃ k : Nat, k ≤ 16 ∧ iv = .int .i64 k ∧ Blk wr (w.heap.size + 1) 73 (srow B k) ∧ Blk wr w.heap.size 73 (srow B 0) ∧ Below w.heap.size w wr) (fun iv _ => 16 - (intOf iv).toNat)
  case atStart => exact ⟨0, Nat.zero_le _, rfl, heap_alloc2_new w _ _, heap_alloc2_old w _ _, ba (ba (Below.refl _ _) _) _⟩
  case round =>
    obtain ⟨k, hk, rfl, hw1, hw0, hb⟩ := hrel
    by_cases hlt : k < 16
    · have HW := Lib.hid (word_of B k HB.out hlt wr)
      have HS := Lib.hid (srow_set B k (wordAt B k) (by omega) (by rw [if_pos hlt]))
      obtain ⟨x, hx⟩ : ∃ x, wordAt B k = x := ⟨_, rfl⟩
      rw [hx] at HW HS
      have H1 := Lib.hid hw1
      have H0 := Lib.hid hw0
      have hz := HZ.out
      clear hx hw1 hw0
      go_wp2_with fail
      refine HW.out.mono ?_
      rintro e w1 ⟨rfl, q, rfl⟩
      have hc := ((H1.out.drewN q).cell k).trans (srow_at B k (by omega))
      have hf := (H1.out.drewN q).frozen k
      go_wp2_with fail
      exact ⟨⟨k + 1, by omega, by go_num, by have := (H1.out.drewN q).set_ k (wv x); rw [HS.out] at this; exact this, (H0.out.drewN q).far (by simp) _, bs (bdn' hb q) (by omega) _⟩, by simp [intOf]; omega⟩
    · have hk16 : k = 16 := by omega
      rw [hk16] at hw1
      have HK := Lib.hid hk16
      obtain ⟨kk, hkk⟩ : ∃ kk, kk = k := ⟨_, rfl⟩
      rw [← hkk] at hlt hk HK ⊢
      clear hk16 hkk k
      go_wp2_with fail
      obtain ⟨wo, hwo⟩ : ∃ wo : World, wo = wr := ⟨_, rfl⟩
      go_loopw [5] (fun iv wr => ∃ k : Nat, 16 ≤ k ∧ k ≤ 64 ∧ iv = .int .i64 k ∧ Blk wr (w.heap.size + 1) 73 (srow B k) ∧ Blk wr w.heap.size 73 (srow B 0) ∧ Below w.heap.size w wr) (fun iv _ => 64 - (intOf iv).toNat)
      case atStart => exact ⟨16, by omega, by omega, rfl, hw1, hw0, hb⟩
      case round =>
        clear hw1 hw0 hb hwo
        obtain ⟨k, hk0, hk, rfl, hw1, hw0, hb⟩ := hrel
        by_cases hlt : k < 64
        · obtain ⟨m15, e15⟩ : ∃ m, k = m + 15 := ⟨k - 15, by omega⟩
          obtain ⟨m2, e2⟩ : ∃ m, k = m + 2 := ⟨k - 2, by omega⟩
          obtain ⟨m7, e7⟩ : ∃ m, k = m + 7 := ⟨k - 7, by omega⟩
          obtain ⟨m16, e16⟩ : ∃ m, k = m + 16 := ⟨k - 16, by omega⟩
          have hS := srow_set B k (nextW (sched B k) k) hlt (by rw [if_neg (by omega)])
          have hat := srow_at B k hlt
          have o15 := srow_old B k m15 (by omega)
          have o2 := srow_old B k m2 (by omega)
          have o7 := srow_old B k m7 (by omega)
          have o16 := srow_old B k m16 (by omega)
          have l15 := wn_lt (sched_lt B k) m15
          have l2 := wn_lt (sched_lt B k) m2
          have l7 := wn_lt (sched_lt B k) m7
          have l16 := wn_lt (sched_lt B k) m16
          have hN : nextW (sched B k) k = (sigI (wn (sched B k) m2) + wn (sched B k) m7 + sigO (wn (sched B k) m15) + wn (sched B k) m16) % 4294967296 := by
            unfold nextW
            rw [show k - 2 = m2 by omega, show k - 7 = m7 by omega, show k - 15 = m15 by omega, show k - 16 = m16 by omega]
          rw [hN] at hS
          clear hN
          generalize wn (sched B k) m15 = a15 at hS o15 l15
          generalize wn (sched B k) m2 = a2 at hS o2 l2
          generalize wn (sched B k) m7 = a7 at hS o7 l7
          generalize wn (sched B k) m16 = a16 at hS o16 l16
          have hO := sigO_int a15 l15
          have hI := sigI_int a2 l2
          have lO := sigO_lt a15 l15
          have lI := sigI_lt a2 l2
          generalize sigO a15 = sO at hS hO lO
          generalize sigI a2 = sI at hS hI lI
          obtain ⟨x, hx⟩ : ∃ x, (sI + a7 + sO + a16) % 4294967296 = x := ⟨_, rfl⟩
          obtain ⟨y, hy⟩ : ∃ y, (sI + a7) % 4294967296 = y := ⟨_, rfl⟩
          obtain ⟨z, hzz⟩ : ∃ z, (y + sO) % 4294967296 = z := ⟨_, rfl⟩
          rw [hx] at hS
          have v1 : IntKind.u32.wrap ((sI : Int) + (a7 : Int)) = (y : Int) := by rw [IntKind.wrap_u32]; omega
          have v2 : IntKind.u32.wrap ((y : Int) + (sO : Int)) = (z : Int) := by rw [IntKind.wrap_u32]; omega
          have v3 : IntKind.u32.wrap ((z : Int) + (a16 : Int)) = (x : Int) := by rw [IntKind.wrap_u32]; omega
          have s15 : IntKind.i64.wrap ((k : Int) - 15) = (m15 : Int) := by rw [IntKind.wrap_i64]; omega
          have s2 : IntKind.i64.wrap ((k : Int) - 2) = (m2 : Int) := by rw [IntKind.wrap_i64]; omega
          have s7 : IntKind.i64.wrap ((k : Int) - 7) = (m7 : Int) := by rw [IntKind.wrap_i64]; omega
          have s16 : IntKind.i64.wrap ((k : Int) - 16) = (m16 : Int) := by rw [IntKind.wrap_i64]; omega
          have p15 : (0 : Int) ≤ (m15 : Int) := by omega
          have q15 : (m15 : Int) < 64 := by omega
          have p2 : (0 : Int) ≤ (m2 : Int) := by omega
          have q2 : (m2 : Int) < 64 := by omega
          have p7 : (0 : Int) ≤ (m7 : Int) := by omega
          have q7 : (m7 : Int) < 64 := by omega
          have p16 : (0 : Int) ≤ (m16 : Int) := by omega
          have q16 : (m16 : Int) < 64 := by omega
          have pk : (0 : Int) ≤ (k : Int) := by omega
          have qk : (k : Int) < 64 := by omega
          have c15 : wr.cell? ⟨w.heap.size + 1, m15, none⟩ = some (wv a15) := (hw1.cell _).trans o15
          have c2 : wr.cell? ⟨w.heap.size + 1, m2, none⟩ = some (wv a2) := (hw1.cell _).trans o2
          have HO := Lib.hid hO
          have HI := Lib.hid hI
          have HS := Lib.hid hS
          have V1 := Lib.hid v1
          have V2 := Lib.hid v2
          have V3 := Lib.hid v3
          have S7 := Lib.hid s7
          have S16 := Lib.hid s16
          have HAT := Lib.hid hat
          have O7 := Lib.hid o7
          have O16 := Lib.hid o16
          have H1 := Lib.hid hw1
          have H0 := Lib.hid hw0
          have n7 : m7 < k := by omega
          have n16 : m16 < k := by omega
          clear hO hI hS v1 v2 v3 s7 s16 hx hy hzz hat o15 o2 o7 o16 hw1 hw0 e15 e2 e7 e16
          go_wp2_with fail
          go_quiet (fail)
          clear c15 c2 s15 s2
          obtain ⟨w1, hw1⟩ := drewN_name wr nq
          rw [hw1]
          have G1 : Hid (Blk w1 (w.heap.size + 1) 73 (srow B k)) := Lib.hid (by rw [← hw1]; exact H1.out.drewN _)
          have G0 : Hid (Blk w1 w.heap.size 73 (srow B 0)) := Lib.hid (by rw [← hw1]; exact H0.out.drewN _)
          have hb1 : Below w.heap.size w w1 := by rw [← hw1]; exact bdn' hb _
          clear hw1 H1 H0
          have hO := HO.out
          have hI := HI.out
          go_wp2_with ((first | (with_reducible refine (cror_k a15 7 7 w1 l15 rfl (by omega) (by omega)).mono ?_) | (with_reducible refine (cror_k a15 18 18 w1 l15 rfl (by omega) (by omega)).mono ?_) | (with_reducible refine (cror_k a2 17 17 w1 l2 rfl (by omega) (by omega)).mono ?_) | (with_reducible refine (cror_k a2 19 19 w1 l2 rfl (by omega) (by omega)).mono ?_)); rintro e w' ⟨rfl, rfl⟩)
          clear hO hI
          have v1 := V1.out
          have v2 := V2.out
          have v3 := V3.out
          have s7 := S7.out
          have s16 := S16.out
          have c7 : w1.cell? ⟨w.heap.size + 1, m7, none⟩ = some (wv a7) := (G1.out.cell _).trans O7.out
          have c16 : w1.cell? ⟨w.heap.size + 1, m16, none⟩ = some (wv a16) := (G1.out.cell _).trans O16.out
          have ck : w1.cell? ⟨w.heap.size + 1, k, none⟩ = some (wv 0) := (G1.out.cell _).trans HAT.out
          have fk : w1.frozen? ⟨w.heap.size + 1, k, none⟩ = false := G1.out.frozen k
          have d7 : (w1.setCell ⟨w.heap.size + 1, k, none⟩ (.int .u32 (x : Int))).drew.cell? ⟨w.heap.size + 1, m7, none⟩ = some (wv a7) := (World.cell?_setCell_other w1 ⟨w.heap.size + 1, k, none⟩ ⟨w.heap.size + 1, m7, none⟩ (.int .u32 (x : Int)) (by simp <;> omega)).trans c7
          have d16 : (w1.setCell ⟨w.heap.size + 1, k, none⟩ (.int .u32 (x : Int))).drew.cell? ⟨w.heap.size + 1, m16, none⟩ = some (wv a16) := (World.cell?_setCell_other w1 ⟨w.heap.size + 1, k, none⟩ ⟨w.heap.size + 1, m16, none⟩ (.int .u32 (x : Int)) (by simp <;> omega)).trans c16
          go_region_held3 (fun W => W.cell? ⟨w.heap.size + 1, m7, none⟩ = some (wv a7) ∧ W.cell? ⟨w.heap.size + 1, m16, none⟩ = some (wv a16)) (first | exact ⟨c7, c16⟩ | exact ⟨d7, d16⟩ | assumption | go_keep) (fail)
          go_wp2_with fail
          exact ⟨⟨k + 1, by omega, by omega, by go_num, by have := (G1.out.set_ k (wv x)).drew; rw [HS.out] at this; exact this, (G0.out.far (by simp) _).drew, (bs hb1 (by omega) _).drew⟩, by simp [intOf]; omega⟩
        · obtain rfl : k = 64 := by omega
          rw [HCS.out] at hw1
          have H1 := Lib.hid hw1
          have H0 := Lib.hid hw0
          have HS0 := Lib.hid (srow_size B 0 (by omega))
          clear hw1 hw0
          go_wp2_with (first | (refine wpList_load_row rfl _ _ rfl _ rfl _ _ _ _ H1.out Try.underlying73 rfl (by rw [List.size_toArray, HSZ.out]; kernel_rfl) ?_) | (refine wpList_store_mid rfl _ _ _ rfl _ _ L.toArray rfl rfl (H0.out.there (by rw [List.size_toArray, HSZ.out, HS0.out]; exact Nat.le_refl _)) (by rw [List.size_toArray, HSZ.out]; kernel_rfl) (all_oneCell_toArray HONE.out) ?_))
          have hW := H0.out.whole L (by rw [HSZ.out, HS0.out])
          refine bodyPost_ret (v := .agg L.toArray) (results_cell_row rfl _ _ _ _ _ _ _ rfl hW Try.underlying73 rfl (by rw [List.size_toArray, HSZ.out]; kernel_rfl)) rfl ⟨rfl, bw hb (Nat.le_refl _) _ _⟩
end Go.Proofs.Ytilcondnpoinkaa
