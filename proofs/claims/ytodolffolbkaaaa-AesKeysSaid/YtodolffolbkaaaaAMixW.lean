/- The contract of a word's mixed. -/
import Derived.Test.YtodolffolbkaaaaAWordB
namespace Go.Proofs.Ytodolffolbkaaaa
open Go.RowKit

theorem mul8_any (a b : UInt8) (w : World) : Calls Try.prog 43 #[.int .u8 (a.toNat : Int), .int .u8 (b.toNat : Int)] w fun e w' => e = .returned (uv (mul8 a b)) ∧ w = w' := by
  have ha := a.toNat_lt
  have hb := b.toNat_lt
  refine (mul_any a.toNat b.toNat w (by omega) (by omega)).mono ?_
  rintro e w' ⟨rfl, rfl⟩
  rw [← mul8_nat]
  exact ⟨rfl, rfl⟩
theorem mul2_any (a : UInt8) (w : World) : Calls Try.prog 43 #[.int .u8 (a.toNat : Int), .int .u8 2] w fun e w' => e = .returned (uv (mul8 a 2)) ∧ w = w' := mul8_any a 2 w
theorem mul3_any (a : UInt8) (w : World) : Calls Try.prog 43 #[.int .u8 (a.toNat : Int), .int .u8 3] w fun e w' => e = .returned (uv (mul8 a 3)) ∧ w = w' := mul8_any a 3 w

set_option maxRecDepth 100000 in
set_option maxHeartbeats 4000000 in
theorem mixed_any (a b c d : UInt8) (w : World) :
    Calls Try.prog 46 #[.agg #[uv a, uv b, uv c, uv d]] w fun e w' => e = .returned (.agg ((mixW [a, b, c, d]).map uv).toArray) ∧ Below w.heap.size w w' := by
  have HZ : Hid (([0, 0, 0, 0] : List UInt8).length = 4) := Lib.hid rfl
  have HN : Hid ((mixW [a, b, c, d]).length = 4) := Lib.hid (tab_len _ _)
  have HU : Hid (∀ k, k < 4 → ub (mixW [a, b, c, d]) k = mixB (ub [a, b, c, d] k) (ub [a, b, c, d] ((k + 1) % 4)) (ub [a, b, c, d] ((k + 2) % 4)) (ub [a, b, c, d] ((k + 3) % 4))) := Lib.hid fun k hk => ub_tab _ hk
  obtain ⟨N, hN⟩ : ∃ N, mixW [a, b, c, d] = N := ⟨_, rfl⟩
  rw [hN] at HN HU ⊢
  have H0 : Hid (((cutL 0 N [0, 0, 0, 0]).map uv).toArray = #[uv 0, uv 0, uv 0, uv 0]) := Lib.hid (by rw [cutL_zero]; rfl)
  clear hN
  go_enter Try.func46, Try.ntmps46
  go_wp2_with fail
  go_loopw [9] (fun iv wr => ∃ k : Nat, k ≤ 4 ∧ iv = .int .i64 k ∧ Hid (Blk wr w.heap.size 43 #[uv a, uv b, uv c, uv d]) ∧ Hid (Blk wr (w.heap.size + 1) 43 #[uv 0, uv 0, uv 0, uv 0]) ∧ Hid (Blk wr (w.heap.size + 2) 43 ((cutL k N [0, 0, 0, 0]).map uv).toArray) ∧ Below w.heap.size w wr) (fun iv _ => 4 - (intOf iv).toNat)
  case atStart =>
    refine ⟨0, by omega, rfl, Lib.hid ?_, Lib.hid ?_, Lib.hid ?_, ba (ba (ba (Below.refl _ _) _) _) _⟩
    · exact ((Blk.new w _ _).alloc _).alloc _
    · exact (Blk.newAt (by simp) _ _).alloc _
    · rw [H0.out]; exact Blk.newAt (by simp) _ _
  case round =>
    obtain ⟨k, hk, rfl, A, Z, P, hb⟩ := hrel
    by_cases hlt : k < 4
    · have c0 := A.out.cell 0
      have c1 := A.out.cell 1
      have c2 := A.out.cell 2
      have c3 := A.out.cell 3
      simp only [List.getElem?_toArray, List.getElem?_cons_zero, List.getElem?_cons_succ] at c0 c1 c2 c3
      have hset := cutL_set HN.out HZ.out hlt
      rw [HU.out k hlt] at hset
      have hc := (P.out.cell k).trans (row_at (by rw [cutL_len HN.out HZ.out hk]; exact hlt))
      generalize ub (cutL k N [0, 0, 0, 0]) k = old at hc
      have hf := P.out.frozen k
      obtain rfl | rfl | rfl | rfl : k = 0 ∨ k = 1 ∨ k = 2 ∨ k = 3 := by omega
      · have hset' : (((cutL 0 N [0, 0, 0, 0]).map uv).toArray).setIfInBounds 0 (uv (mul8 a 2 ^^^ mul8 b 3 ^^^ c ^^^ d)) = ((cutL 1 N [0, 0, 0, 0]).map uv).toArray := hset
        obtain ⟨p, hp⟩ : ∃ p, mul8 a 2 = p := ⟨_, rfl⟩
        obtain ⟨q, hq⟩ : ∃ q, mul8 b 3 = q := ⟨_, rfl⟩
        have HM2 := Lib.hid (fun W => mul2_any a W)
        have HM3 := Lib.hid (fun W => mul3_any b W)
        rw [hp] at hset' HM2
        rw [hq] at hset' HM3
        have x1 := xor_byte p q
        have x2 := xor_byte (p ^^^ q) c
        have x3 := xor_byte (p ^^^ q ^^^ c) d
        generalize p ^^^ q = y at x1 x2 x3 hset'
        generalize y ^^^ c = z at x2 x3 hset'
        generalize z ^^^ d = t at x3 hset'
        have HS := Lib.hid hset'
        have HX1 := Lib.hid x1
        have HX2 := Lib.hid x2
        have HX3 := Lib.hid x3
        clear hset hset' hp hq x1 x2 x3 hlt hk
        go_wp2_with fail
        go_quiet (fail)
        clear c0 c1 c2 c3
        obtain ⟨w3, hw3⟩ := drewN_name wr nq
        rw [hw3]
        have A3 : Hid (Blk w3 w.heap.size 43 #[uv a, uv b, uv c, uv d]) := Lib.hid (by rw [← hw3]; exact A.out.drewN _)
        have Z3 : Hid (Blk w3 (w.heap.size + 1) 43 #[uv 0, uv 0, uv 0, uv 0]) := Lib.hid (by rw [← hw3]; exact Z.out.drewN _)
        have P3 : Hid (Blk w3 (w.heap.size + 2) 43 ((cutL 0 N [0, 0, 0, 0]).map uv).toArray) := Lib.hid (by rw [← hw3]; exact P.out.drewN _)
        have hb3 : Below w.heap.size w w3 := by rw [← hw3]; exact bdn' hb _
        have hc3 : w3.cell? ⟨w.heap.size + 2, 0, none⟩ = some (uv old) := by rw [← hw3]; exact hc
        have hf3 := P3.out.frozen 0
        clear hw3 A Z P hb hc hf
        have x1 := HX1.out
        have x2 := HX2.out
        have x3 := HX3.out
        go_wp2_with fail
        refine (HM2.out _).mono ?_
        rintro e w4 ⟨rfl, rfl⟩
        go_wp2_with fail
        refine (HM3.out _).mono ?_
        rintro e w4 ⟨rfl, rfl⟩
        go_wp2
        exact ⟨⟨1, by omega, by go_num, Lib.hid (A3.out.far (by simp; omega) _), Lib.hid (Z3.out.far (by simp) _), Lib.hid (by have := P3.out.set_ 0 (uv t); rw [HS.out] at this; exact this), bs hb3 (by omega) _⟩, by simp [intOf]⟩
      · have hset' : (((cutL 1 N [0, 0, 0, 0]).map uv).toArray).setIfInBounds 1 (uv (mul8 b 2 ^^^ mul8 c 3 ^^^ d ^^^ a)) = ((cutL 2 N [0, 0, 0, 0]).map uv).toArray := hset
        obtain ⟨p, hp⟩ : ∃ p, mul8 b 2 = p := ⟨_, rfl⟩
        obtain ⟨q, hq⟩ : ∃ q, mul8 c 3 = q := ⟨_, rfl⟩
        have HM2 := Lib.hid (fun W => mul2_any b W)
        have HM3 := Lib.hid (fun W => mul3_any c W)
        rw [hp] at hset' HM2
        rw [hq] at hset' HM3
        have x1 := xor_byte p q
        have x2 := xor_byte (p ^^^ q) d
        have x3 := xor_byte (p ^^^ q ^^^ d) a
        generalize p ^^^ q = y at x1 x2 x3 hset'
        generalize y ^^^ d = z at x2 x3 hset'
        generalize z ^^^ a = t at x3 hset'
        have HS := Lib.hid hset'
        have HX1 := Lib.hid x1
        have HX2 := Lib.hid x2
        have HX3 := Lib.hid x3
        clear hset hset' hp hq x1 x2 x3 hlt hk
        go_wp2_with fail
        go_quiet (fail)
        clear c0 c1 c2 c3
        obtain ⟨w3, hw3⟩ := drewN_name wr nq
        rw [hw3]
        have A3 : Hid (Blk w3 w.heap.size 43 #[uv a, uv b, uv c, uv d]) := Lib.hid (by rw [← hw3]; exact A.out.drewN _)
        have Z3 : Hid (Blk w3 (w.heap.size + 1) 43 #[uv 0, uv 0, uv 0, uv 0]) := Lib.hid (by rw [← hw3]; exact Z.out.drewN _)
        have P3 : Hid (Blk w3 (w.heap.size + 2) 43 ((cutL 1 N [0, 0, 0, 0]).map uv).toArray) := Lib.hid (by rw [← hw3]; exact P.out.drewN _)
        have hb3 : Below w.heap.size w w3 := by rw [← hw3]; exact bdn' hb _
        have hc3 : w3.cell? ⟨w.heap.size + 2, 1, none⟩ = some (uv old) := by rw [← hw3]; exact hc
        have hf3 := P3.out.frozen 1
        clear hw3 A Z P hb hc hf
        have x1 := HX1.out
        have x2 := HX2.out
        have x3 := HX3.out
        go_wp2_with fail
        refine (HM2.out _).mono ?_
        rintro e w4 ⟨rfl, rfl⟩
        go_wp2_with fail
        refine (HM3.out _).mono ?_
        rintro e w4 ⟨rfl, rfl⟩
        go_wp2
        exact ⟨⟨2, by omega, by go_num, Lib.hid (A3.out.far (by simp; omega) _), Lib.hid (Z3.out.far (by simp) _), Lib.hid (by have := P3.out.set_ 1 (uv t); rw [HS.out] at this; exact this), bs hb3 (by omega) _⟩, by simp [intOf]⟩
      · have hset' : (((cutL 2 N [0, 0, 0, 0]).map uv).toArray).setIfInBounds 2 (uv (mul8 c 2 ^^^ mul8 d 3 ^^^ a ^^^ b)) = ((cutL 3 N [0, 0, 0, 0]).map uv).toArray := hset
        obtain ⟨p, hp⟩ : ∃ p, mul8 c 2 = p := ⟨_, rfl⟩
        obtain ⟨q, hq⟩ : ∃ q, mul8 d 3 = q := ⟨_, rfl⟩
        have HM2 := Lib.hid (fun W => mul2_any c W)
        have HM3 := Lib.hid (fun W => mul3_any d W)
        rw [hp] at hset' HM2
        rw [hq] at hset' HM3
        have x1 := xor_byte p q
        have x2 := xor_byte (p ^^^ q) a
        have x3 := xor_byte (p ^^^ q ^^^ a) b
        generalize p ^^^ q = y at x1 x2 x3 hset'
        generalize y ^^^ a = z at x2 x3 hset'
        generalize z ^^^ b = t at x3 hset'
        have HS := Lib.hid hset'
        have HX1 := Lib.hid x1
        have HX2 := Lib.hid x2
        have HX3 := Lib.hid x3
        clear hset hset' hp hq x1 x2 x3 hlt hk
        go_wp2_with fail
        go_quiet (fail)
        clear c0 c1 c2 c3
        obtain ⟨w3, hw3⟩ := drewN_name wr nq
        rw [hw3]
        have A3 : Hid (Blk w3 w.heap.size 43 #[uv a, uv b, uv c, uv d]) := Lib.hid (by rw [← hw3]; exact A.out.drewN _)
        have Z3 : Hid (Blk w3 (w.heap.size + 1) 43 #[uv 0, uv 0, uv 0, uv 0]) := Lib.hid (by rw [← hw3]; exact Z.out.drewN _)
        have P3 : Hid (Blk w3 (w.heap.size + 2) 43 ((cutL 2 N [0, 0, 0, 0]).map uv).toArray) := Lib.hid (by rw [← hw3]; exact P.out.drewN _)
        have hb3 : Below w.heap.size w w3 := by rw [← hw3]; exact bdn' hb _
        have hc3 : w3.cell? ⟨w.heap.size + 2, 2, none⟩ = some (uv old) := by rw [← hw3]; exact hc
        have hf3 := P3.out.frozen 2
        clear hw3 A Z P hb hc hf
        have x1 := HX1.out
        have x2 := HX2.out
        have x3 := HX3.out
        go_wp2_with fail
        refine (HM2.out _).mono ?_
        rintro e w4 ⟨rfl, rfl⟩
        go_wp2_with fail
        refine (HM3.out _).mono ?_
        rintro e w4 ⟨rfl, rfl⟩
        go_wp2
        exact ⟨⟨3, by omega, by go_num, Lib.hid (A3.out.far (by simp; omega) _), Lib.hid (Z3.out.far (by simp) _), Lib.hid (by have := P3.out.set_ 2 (uv t); rw [HS.out] at this; exact this), bs hb3 (by omega) _⟩, by simp [intOf]⟩
      · have hset' : (((cutL 3 N [0, 0, 0, 0]).map uv).toArray).setIfInBounds 3 (uv (mul8 d 2 ^^^ mul8 a 3 ^^^ b ^^^ c)) = ((cutL 4 N [0, 0, 0, 0]).map uv).toArray := hset
        obtain ⟨p, hp⟩ : ∃ p, mul8 d 2 = p := ⟨_, rfl⟩
        obtain ⟨q, hq⟩ : ∃ q, mul8 a 3 = q := ⟨_, rfl⟩
        have HM2 := Lib.hid (fun W => mul2_any d W)
        have HM3 := Lib.hid (fun W => mul3_any a W)
        rw [hp] at hset' HM2
        rw [hq] at hset' HM3
        have x1 := xor_byte p q
        have x2 := xor_byte (p ^^^ q) b
        have x3 := xor_byte (p ^^^ q ^^^ b) c
        generalize p ^^^ q = y at x1 x2 x3 hset'
        generalize y ^^^ b = z at x2 x3 hset'
        generalize z ^^^ c = t at x3 hset'
        have HS := Lib.hid hset'
        have HX1 := Lib.hid x1
        have HX2 := Lib.hid x2
        have HX3 := Lib.hid x3
        clear hset hset' hp hq x1 x2 x3 hlt hk
        go_wp2_with fail
        go_quiet (fail)
        clear c0 c1 c2 c3
        obtain ⟨w3, hw3⟩ := drewN_name wr nq
        rw [hw3]
        have A3 : Hid (Blk w3 w.heap.size 43 #[uv a, uv b, uv c, uv d]) := Lib.hid (by rw [← hw3]; exact A.out.drewN _)
        have Z3 : Hid (Blk w3 (w.heap.size + 1) 43 #[uv 0, uv 0, uv 0, uv 0]) := Lib.hid (by rw [← hw3]; exact Z.out.drewN _)
        have P3 : Hid (Blk w3 (w.heap.size + 2) 43 ((cutL 3 N [0, 0, 0, 0]).map uv).toArray) := Lib.hid (by rw [← hw3]; exact P.out.drewN _)
        have hb3 : Below w.heap.size w w3 := by rw [← hw3]; exact bdn' hb _
        have hc3 : w3.cell? ⟨w.heap.size + 2, 3, none⟩ = some (uv old) := by rw [← hw3]; exact hc
        have hf3 := P3.out.frozen 3
        clear hw3 A Z P hb hc hf
        have x1 := HX1.out
        have x2 := HX2.out
        have x3 := HX3.out
        go_wp2_with fail
        refine (HM2.out _).mono ?_
        rintro e w4 ⟨rfl, rfl⟩
        go_wp2_with fail
        refine (HM3.out _).mono ?_
        rintro e w4 ⟨rfl, rfl⟩
        go_wp2
        exact ⟨⟨4, by omega, by go_num, Lib.hid (A3.out.far (by simp; omega) _), Lib.hid (Z3.out.far (by simp) _), Lib.hid (by have := P3.out.set_ 3 (uv t); rw [HS.out] at this; exact this), bs hb3 (by omega) _⟩, by simp [intOf]⟩
    · obtain rfl : k = 4 := by omega
      have hP := P.out
      rw [cutL_all HN.out HZ.out] at hP
      have HONE := Lib.hid (uvs_one N)
      go_wp2_with (first | (refine wpList_load_row rfl _ _ rfl _ rfl _ _ _ _ hP Try.underlying43 rfl (wlen HN.out) ?_) | (refine wpList_store_mid rfl _ _ _ rfl _ _ (N.map uv).toArray rfl rfl (Z.out.there (by rw [List.size_toArray, List.length_map, HN.out]; exact Nat.le_refl 4)) (wlen HN.out) (all_oneCell_toArray HONE.out) ?_))
      have hW := Z.out.whole (N.map uv) (by rw [List.length_map, HN.out]; rfl)
      refine bodyPost_ret (v := .agg (N.map uv).toArray) (results_cell_row rfl _ _ _ _ _ _ _ rfl hW Try.underlying43 rfl (wlen HN.out)) rfl ?_
      exact ⟨rfl, bw hb (by omega) _ _⟩
end Go.Proofs.Ytodolffolbkaaaa
