/- Texts of this seat, one behind the other: AMixW, AScrA, AScr. -/
import Derived.Test.YtcecjoodlmpgnaaQ10
/- The contract of a word's mixed. -/
namespace Go.Proofs.Ytcecjoodlmpgnaa
open Go.RowKit

theorem mul8_any (a b : UInt8) (w : World) : Calls Try.prog 61 #[.int .u8 (a.toNat : Int), .int .u8 (b.toNat : Int)] w fun e w' => e = .returned (uv (mul8 a b)) ∧ w = w' := by
  have ha := a.toNat_lt
  have hb := b.toNat_lt
  refine (mul_any a.toNat b.toNat w (by omega) (by omega)).mono ?_
  rintro e w' ⟨rfl, rfl⟩
  rw [← mul8_nat]
  exact ⟨rfl, rfl⟩
theorem mul2_any (a : UInt8) (w : World) : Calls Try.prog 61 #[.int .u8 (a.toNat : Int), .int .u8 2] w fun e w' => e = .returned (uv (mul8 a 2)) ∧ w = w' := mul8_any a 2 w
theorem mul3_any (a : UInt8) (w : World) : Calls Try.prog 61 #[.int .u8 (a.toNat : Int), .int .u8 3] w fun e w' => e = .returned (uv (mul8 a 3)) ∧ w = w' := mul8_any a 3 w

set_option maxRecDepth 100000 in
set_option maxHeartbeats 4000000 in
theorem mixed_any (a b c d : UInt8) (w : World) :
    Calls Try.prog 94 #[.agg #[uv a, uv b, uv c, uv d]] w fun e w' => e = .returned (.agg ((mixW [a, b, c, d]).map uv).toArray) ∧ Below w.heap.size w w' := by
  have HZ : Hid (([0, 0, 0, 0] : List UInt8).length = 4) := Lib.hid rfl
  have HN : Hid ((mixW [a, b, c, d]).length = 4) := Lib.hid (tab_len _ _)
  have HU : Hid (∀ k, k < 4 → ub (mixW [a, b, c, d]) k = mixB (ub [a, b, c, d] k) (ub [a, b, c, d] ((k + 1) % 4)) (ub [a, b, c, d] ((k + 2) % 4)) (ub [a, b, c, d] ((k + 3) % 4))) := Lib.hid fun k hk => ub_tab _ hk
  obtain ⟨N, hN⟩ : ∃ N, mixW [a, b, c, d] = N := ⟨_, rfl⟩
  rw [hN] at HN HU ⊢
  have H0 : Hid (((cutL 0 N [0, 0, 0, 0]).map uv).toArray = #[uv 0, uv 0, uv 0, uv 0]) := Lib.hid (by rw [cutL_zero]; rfl)
  clear hN
  go_enter Try.func94, Try.ntmps94
  go_wp2_with fail
  go_loopw [9] (fun iv wr => ∃ k : Nat, k ≤ 4 ∧ iv = .int .i64 k ∧ Hid (Blk wr w.heap.size 76 #[uv a, uv b, uv c, uv d]) ∧ Hid (Blk wr (w.heap.size + 1) 76 #[uv 0, uv 0, uv 0, uv 0]) ∧ Hid (Blk wr (w.heap.size + 2) 76 ((cutL k N [0, 0, 0, 0]).map uv).toArray) ∧ Below w.heap.size w wr) (fun iv _ => 4 - (intOf iv).toNat)
  case atStart =>
    refine ⟨0, by omega, rfl, Lib.hid ?_, Lib.hid ?_, Lib.hid ?_, ba (ba (ba (Below.refl _ _) _) _) _⟩
    · exact ((Blk.new w _ _).alloc _).alloc _
    · exact (Blk.newAt (by simp) _ _).alloc _
    · rw [H0.out]; exact Blk.newAt (by simp) _ _
  case round =>
    obtain ⟨k, hk, rfl, A, Z, P, hb⟩ := hrel
    by_cases hlt : k < 4
    · have c0 := A.out.cell 0
      have c1 := A.out.cell 1
      have c2 := A.out.cell 2
      have c3 := A.out.cell 3
      simp only [List.getElem?_toArray, List.getElem?_cons_zero, List.getElem?_cons_succ] at c0 c1 c2 c3
      have hset := cutL_set HN.out HZ.out hlt
      rw [HU.out k hlt] at hset
      have hc := (P.out.cell k).trans (row_at (by rw [cutL_len HN.out HZ.out hk]; exact hlt))
      generalize ub (cutL k N [0, 0, 0, 0]) k = old at hc
      have hf := P.out.frozen k
      obtain rfl | rfl | rfl | rfl : k = 0 ∨ k = 1 ∨ k = 2 ∨ k = 3 := by omega
      · have hset' : (((cutL 0 N [0, 0, 0, 0]).map uv).toArray).setIfInBounds 0 (uv (mul8 a 2 ^^^ mul8 b 3 ^^^ c ^^^ d)) = ((cutL 1 N [0, 0, 0, 0]).map uv).toArray := hset
        obtain ⟨p, hp⟩ : ∃ p, mul8 a 2 = p := ⟨_, rfl⟩
        obtain ⟨q, hq⟩ : ∃ q, mul8 b 3 = q := ⟨_, rfl⟩
        have HM2 := Lib.hid (fun W => mul2_any a W)
        have HM3 := Lib.hid (fun W => mul3_any b W)
        rw [hp] at hset' HM2
        rw [hq] at hset' HM3
        have x1 := xor_byte p q
        have x2 := xor_byte (p ^^^ q) c
        have x3 := xor_byte (p ^^^ q ^^^ c) d
        generalize p ^^^ q = y at x1 x2 x3 hset'
        generalize y ^^^ c = z at x2 x3 hset'
        generalize z ^^^ d = t at x3 hset'
        have HS := Lib.hid hset'
        have HX1 := Lib.hid x1
        have HX2 := Lib.hid x2
        have HX3 := Lib.hid x3
        clear hset hset' hp hq x1 x2 x3 hlt hk
        go_wp2_with fail
        go_quiet (fail)
        clear c0 c1 c2 c3
        obtain ⟨w3, hw3⟩ := drewN_name wr nq
        rw [hw3]
        have A3 : Hid (Blk w3 w.heap.size 76 #[uv a, uv b, uv c, uv d]) := Lib.hid (by rw [← hw3]; exact A.out.drewN _)
        have Z3 : Hid (Blk w3 (w.heap.size + 1) 76 #[uv 0, uv 0, uv 0, uv 0]) := Lib.hid (by rw [← hw3]; exact Z.out.drewN _)
        have P3 : Hid (Blk w3 (w.heap.size + 2) 76 ((cutL 0 N [0, 0, 0, 0]).map uv).toArray) := Lib.hid (by rw [← hw3]; exact P.out.drewN _)
        have hb3 : Below w.heap.size w w3 := by rw [← hw3]; exact bdn' hb _
        have hc3 : w3.cell? ⟨w.heap.size + 2, 0, none⟩ = some (uv old) := by rw [← hw3]; exact hc
        have hf3 := P3.out.frozen 0
        clear hw3 A Z P hb hc hf
        have x1 := HX1.out
        have x2 := HX2.out
        have x3 := HX3.out
        go_wp2_with fail
        refine (HM2.out _).mono ?_
        rintro e w4 ⟨rfl, rfl⟩
        go_wp2_with fail
        refine (HM3.out _).mono ?_
        rintro e w4 ⟨rfl, rfl⟩
        go_wp2
        exact ⟨⟨1, by omega, by go_num, Lib.hid (A3.out.far (by simp; omega) _), Lib.hid (Z3.out.far (by simp) _), Lib.hid (by have := P3.out.set_ 0 (uv t); rw [HS.out] at this; exact this), bs hb3 (by omega) _⟩, by simp [intOf]⟩
      · have hset' : (((cutL 1 N [0, 0, 0, 0]).map uv).toArray).setIfInBounds 1 (uv (mul8 b 2 ^^^ mul8 c 3 ^^^ d ^^^ a)) = ((cutL 2 N [0, 0, 0, 0]).map uv).toArray := hset
        obtain ⟨p, hp⟩ : ∃ p, mul8 b 2 = p := ⟨_, rfl⟩
        obtain ⟨q, hq⟩ : ∃ q, mul8 c 3 = q := ⟨_, rfl⟩
        have HM2 := Lib.hid (fun W => mul2_any b W)
        have HM3 := Lib.hid (fun W => mul3_any c W)
        rw [hp] at hset' HM2
        rw [hq] at hset' HM3
        have x1 := xor_byte p q
        have x2 := xor_byte (p ^^^ q) d
        have x3 := xor_byte (p ^^^ q ^^^ d) a
        generalize p ^^^ q = y at x1 x2 x3 hset'
        generalize y ^^^ d = z at x2 x3 hset'
        generalize z ^^^ a = t at x3 hset'
        have HS := Lib.hid hset'
        have HX1 := Lib.hid x1
        have HX2 := Lib.hid x2
        have HX3 := Lib.hid x3
        clear hset hset' hp hq x1 x2 x3 hlt hk
        go_wp2_with fail
        go_quiet (fail)
        clear c0 c1 c2 c3
        obtain ⟨w3, hw3⟩ := drewN_name wr nq
        rw [hw3]
        have A3 : Hid (Blk w3 w.heap.size 76 #[uv a, uv b, uv c, uv d]) := Lib.hid (by rw [← hw3]; exact A.out.drewN _)
        have Z3 : Hid (Blk w3 (w.heap.size + 1) 76 #[uv 0, uv 0, uv 0, uv 0]) := Lib.hid (by rw [← hw3]; exact Z.out.drewN _)
        have P3 : Hid (Blk w3 (w.heap.size + 2) 76 ((cutL 1 N [0, 0, 0, 0]).map uv).toArray) := Lib.hid (by rw [← hw3]; exact P.out.drewN _)
        have hb3 : Below w.heap.size w w3 := by rw [← hw3]; exact bdn' hb _
        have hc3 : w3.cell? ⟨w.heap.size + 2, 1, none⟩ = some (uv old) := by rw [← hw3]; exact hc
        have hf3 := P3.out.frozen 1
        clear hw3 A Z P hb hc hf
        have x1 := HX1.out
        have x2 := HX2.out
        have x3 := HX3.out
        go_wp2_with fail
        refine (HM2.out _).mono ?_
        rintro e w4 ⟨rfl, rfl⟩
        go_wp2_with fail
        refine (HM3.out _).mono ?_
        rintro e w4 ⟨rfl, rfl⟩
        go_wp2
        exact ⟨⟨2, by omega, by go_num, Lib.hid (A3.out.far (by simp; omega) _), Lib.hid (Z3.out.far (by simp) _), Lib.hid (by have := P3.out.set_ 1 (uv t); rw [HS.out] at this; exact this), bs hb3 (by omega) _⟩, by simp [intOf]⟩
      · have hset' : (((cutL 2 N [0, 0, 0, 0]).map uv).toArray).setIfInBounds 2 (uv (mul8 c 2 ^^^ mul8 d 3 ^^^ a ^^^ b)) = ((cutL 3 N [0, 0, 0, 0]).map uv).toArray := hset
        obtain ⟨p, hp⟩ : ∃ p, mul8 c 2 = p := ⟨_, rfl⟩
        obtain ⟨q, hq⟩ : ∃ q, mul8 d 3 = q := ⟨_, rfl⟩
        have HM2 := Lib.hid (fun W => mul2_any c W)
        have HM3 := Lib.hid (fun W => mul3_any d W)
        rw [hp] at hset' HM2
        rw [hq] at hset' HM3
        have x1 := xor_byte p q
        have x2 := xor_byte (p ^^^ q) a
        have x3 := xor_byte (p ^^^ q ^^^ a) b
        generalize p ^^^ q = y at x1 x2 x3 hset'
        generalize y ^^^ a = z at x2 x3 hset'
        generalize z ^^^ b = t at x3 hset'
        have HS := Lib.hid hset'
        have HX1 := Lib.hid x1
        have HX2 := Lib.hid x2
        have HX3 := Lib.hid x3
        clear hset hset' hp hq x1 x2 x3 hlt hk
        go_wp2_with fail
        go_quiet (fail)
        clear c0 c1 c2 c3
        obtain ⟨w3, hw3⟩ := drewN_name wr nq
        rw [hw3]
        have A3 : Hid (Blk w3 w.heap.size 76 #[uv a, uv b, uv c, uv d]) := Lib.hid (by rw [← hw3]; exact A.out.drewN _)
        have Z3 : Hid (Blk w3 (w.heap.size + 1) 76 #[uv 0, uv 0, uv 0, uv 0]) := Lib.hid (by rw [← hw3]; exact Z.out.drewN _)
        have P3 : Hid (Blk w3 (w.heap.size + 2) 76 ((cutL 2 N [0, 0, 0, 0]).map uv).toArray) := Lib.hid (by rw [← hw3]; exact P.out.drewN _)
        have hb3 : Below w.heap.size w w3 := by rw [← hw3]; exact bdn' hb _
        have hc3 : w3.cell? ⟨w.heap.size + 2, 2, none⟩ = some (uv old) := by rw [← hw3]; exact hc
        have hf3 := P3.out.frozen 2
        clear hw3 A Z P hb hc hf
        have x1 := HX1.out
        have x2 := HX2.out
        have x3 := HX3.out
        go_wp2_with fail
        refine (HM2.out _).mono ?_
        rintro e w4 ⟨rfl, rfl⟩
        go_wp2_with fail
        refine (HM3.out _).mono ?_
        rintro e w4 ⟨rfl, rfl⟩
        go_wp2
        exact ⟨⟨3, by omega, by go_num, Lib.hid (A3.out.far (by simp; omega) _), Lib.hid (Z3.out.far (by simp) _), Lib.hid (by have := P3.out.set_ 2 (uv t); rw [HS.out] at this; exact this), bs hb3 (by omega) _⟩, by simp [intOf]⟩
      · have hset' : (((cutL 3 N [0, 0, 0, 0]).map uv).toArray).setIfInBounds 3 (uv (mul8 d 2 ^^^ mul8 a 3 ^^^ b ^^^ c)) = ((cutL 4 N [0, 0, 0, 0]).map uv).toArray := hset
        obtain ⟨p, hp⟩ : ∃ p, mul8 d 2 = p := ⟨_, rfl⟩
        obtain ⟨q, hq⟩ : ∃ q, mul8 a 3 = q := ⟨_, rfl⟩
        have HM2 := Lib.hid (fun W => mul2_any d W)
        have HM3 := Lib.hid (fun W => mul3_any a W)
        rw [hp] at hset' HM2
        rw [hq] at hset' HM3
        have x1 := xor_byte p q
        have x2 := xor_byte (p ^^^ q) b
        have x3 := xor_byte (p ^^^ q ^^^ b) c
        generalize p ^^^ q = y at x1 x2 x3 hset'
        generalize y ^^^ b = z at x2 x3 hset'
        generalize z ^^^ c = t at x3 hset'
        have HS := Lib.hid hset'
        have HX1 := Lib.hid x1
        have HX2 := Lib.hid x2
        have HX3 := Lib.hid x3
        clear hset hset' hp hq x1 x2 x3 hlt hk
        go_wp2_with fail
        go_quiet (fail)
        clear c0 c1 c2 c3
        obtain ⟨w3, hw3⟩ := drewN_name wr nq
        rw [hw3]
        have A3 : Hid (Blk w3 w.heap.size 76 #[uv a, uv b, uv c, uv d]) := Lib.hid (by rw [← hw3]; exact A.out.drewN _)
        have Z3 : Hid (Blk w3 (w.heap.size + 1) 76 #[uv 0, uv 0, uv 0, uv 0]) := Lib.hid (by rw [← hw3]; exact Z.out.drewN _)
        have P3 : Hid (Blk w3 (w.heap.size + 2) 76 ((cutL 3 N [0, 0, 0, 0]).map uv).toArray) := Lib.hid (by rw [← hw3]; exact P.out.drewN _)
        have hb3 : Below w.heap.size w w3 := by rw [← hw3]; exact bdn' hb _
        have hc3 : w3.cell? ⟨w.heap.size + 2, 3, none⟩ = some (uv old) := by rw [← hw3]; exact hc
        have hf3 := P3.out.frozen 3
        clear hw3 A Z P hb hc hf
        have x1 := HX1.out
        have x2 := HX2.out
        have x3 := HX3.out
        go_wp2_with fail
        refine (HM2.out _).mono ?_
        rintro e w4 ⟨rfl, rfl⟩
        go_wp2_with fail
        refine (HM3.out _).mono ?_
        rintro e w4 ⟨rfl, rfl⟩
        go_wp2
        exact ⟨⟨4, by omega, by go_num, Lib.hid (A3.out.far (by simp; omega) _), Lib.hid (Z3.out.far (by simp) _), Lib.hid (by have := P3.out.set_ 3 (uv t); rw [HS.out] at this; exact this), bs hb3 (by omega) _⟩, by simp [intOf]⟩
    · obtain rfl : k = 4 := by omega
      have hP := P.out
      rw [cutL_all HN.out HZ.out] at hP
      have HONE := Lib.hid (uvs_one N)
      go_wp2_with (first | (refine wpList_load_row rfl _ _ rfl _ rfl _ _ _ _ hP Try.underlying76 rfl (wlen HN.out) ?_) | (refine wpList_store_mid rfl _ _ _ rfl _ _ (N.map uv).toArray rfl rfl (Z.out.there (by rw [List.size_toArray, List.length_map, HN.out]; exact Nat.le_refl 4)) (wlen HN.out) (all_oneCell_toArray HONE.out) ?_))
      have hW := Z.out.whole (N.map uv) (by rw [List.length_map, HN.out]; rfl)
      refine bodyPost_ret (v := .agg (N.map uv).toArray) (results_cell_row rfl _ _ _ _ _ _ _ rfl hW Try.underlying76 rfl (wlen HN.out)) rfl ?_
      exact ⟨rfl, bw hb (by omega) _ _⟩
end Go.Proofs.Ytcecjoodlmpgnaa
/- The contract of a word's scrambled. -/
namespace Go.Proofs.Ytcecjoodlmpgnaa
open Go.RowKit

theorem pow2_any (n : Nat) (w : World) (hn : (n : Int) ≤ 1000) : Calls Try.prog 80 #[.int .u8 2, .int .i64 (n : Int)] w fun e w' => e = .returned (uv (pw8 n)) ∧ w = w' := by
  refine (pow_any 2 n w (by omega) (by omega) (by omega)).mono ?_
  rintro e w' ⟨rfl, rfl⟩
  have : uv (pw8 n) = .int .u8 ((pw 2 n : Nat) : Int) := by rw [← pw8_nat]
  rw [this]
  exact ⟨rfl, rfl⟩
theorem boxed_ex (a b c d : UInt8) (gb : Nat) (w : World) (hx : Blk w gb 5 bxs) :
    Calls Try.prog 93 #[.agg #[uv a, uv b, uv c, uv d], .slice (some ⟨gb, 0, none⟩) 256 256] w fun e w' => e = .returned (.agg #[uv (box8 a), uv (box8 b), uv (box8 c), uv (box8 d)]) ∧ Below w.heap.size w w' := boxed_any a b c d gb w hx

set_option maxRecDepth 100000 in
set_option maxHeartbeats 1000000 in
theorem scr_same (a b c d : UInt8) (i own gb : Nat) (w : World) (h0 : own = 4 ∨ own = 8) (h1 : i % own ≠ 0) (h2 : ¬ (own = 8 ∧ i % own = 4)) :
    Calls Try.prog 87 #[.agg #[uv a, uv b, uv c, uv d], .int .i64 (i : Int), .int .i64 (own : Int), .slice (some ⟨gb, 0, none⟩) 256 256] w fun e w' => e = .returned (.agg #[uv a, uv b, uv c, uv d]) ∧ Below w.heap.size w w' := by
  rcases h0 with rfl | rfl
  · have z0 : ((i : Int) % 4 == 0) = false := by simp; omega
    clear h1 h2
    go_enter Try.func87, Try.ntmps87
    go_wp2
    refine bodyPost_ret (v := .agg #[uv a, uv b, uv c, uv d]) (results_cell_row rfl _ _ _ _ _ _ _ rfl (Blk.newAt (by simp) _ _) Try.underlying76 rfl (by kernel_rfl)) rfl ?_
    exact ⟨rfl, ba (ba (Below.refl _ _) _) _⟩
  · have z0 : ((i : Int) % 8 == 0) = false := by simp; omega
    have z1 : ((i : Int) % 8 == 4) = false := by simp; omega
    clear h1 h2
    go_enter Try.func87, Try.ntmps87
    go_wp2
    refine bodyPost_ret (v := .agg #[uv a, uv b, uv c, uv d]) (results_cell_row rfl _ _ _ _ _ _ _ rfl (Blk.newAt (by simp) _ _) Try.underlying76 rfl (by kernel_rfl)) rfl ?_
    exact ⟨rfl, ba (ba (Below.refl _ _) _) _⟩

set_option maxRecDepth 100000 in
set_option maxHeartbeats 1000000 in
theorem scr_box (a b c d : UInt8) (i gb : Nat) (w : World) (hx : Blk w gb 5 bxs) (h2 : i % 8 = 4) :
    Calls Try.prog 87 #[.agg #[uv a, uv b, uv c, uv d], .int .i64 (i : Int), .int .i64 8, .slice (some ⟨gb, 0, none⟩) 256 256] w fun e w' => e = .returned (.agg #[uv (box8 a), uv (box8 b), uv (box8 c), uv (box8 d)]) ∧ Below w.heap.size w w' := by
  have z0 : ((i : Int) % 8 == 0) = false := by simp; omega
  have z1 : ((i : Int) % 8 == 4) = true := by simp; omega
  have HX := Lib.hid hx
  have HC := Lib.hid (boxed_ex a b c d gb)
  generalize box8 a = a' at HC ⊢
  generalize box8 b = b' at HC ⊢
  generalize box8 c = c' at HC ⊢
  generalize box8 d = d' at HC ⊢
  clear h2 hx
  go_enter Try.func87, Try.ntmps87
  go_wp2_with fail
  refine (HC.out _ ((HX.out.alloc _).alloc _)).mono ?_
  rintro e w1 ⟨rfl, hb⟩
  have G := Lib.hid (((Blk.new w 76 #[uv a, uv b, uv c, uv d]).alloc (.cells #[.int .u8 0, .int .u8 0, .int .u8 0, .int .u8 0] 76)).below hb)
  have R := Lib.hid ((Blk.newAt (w := w.alloc (.cells #[uv a, uv b, uv c, uv d] 76)) (g := w.heap.size + 1) (by simp) 76 #[.int .u8 0, .int .u8 0, .int .u8 0, .int .u8 0]).below hb)
  have hb1 : Below w.heap.size w w1 := bt (ba (ba (Below.refl _ _) _) _) hb
  clear hb HX HC
  have HONE := Lib.hid (uvs_one [a', b', c', d'])
  have HG2 := Lib.hid (G.out.whole ([a', b', c', d'].map uv) (by simp))
  have HR2 := Lib.hid (R.out.far_ (k := w.heap.size + 1) (g := w.heap.size) (by omega) 0 ([a', b', c', d'].map uv))
  simp only []
  go_upto_region 6 with (refine wpList_store_mid rfl _ _ _ rfl _ _ ([a', b', c', d'].map uv).toArray rfl rfl (G.out.there (by simp)) (by kernel_rfl) (all_oneCell_toArray HONE.out) ?_)
  generalize hw2 : World.setCells w1 w.heap.size 0 _ = w2
  rw [hw2] at HG2 HR2
  have hb2 : Below w.heap.size w w2 := by rw [← hw2]; exact bw hb1 (Nat.le_refl _) _ _
  clear hw2 G R hb1
  go_wp2_with (first | (refine wpList_load_row rfl _ _ rfl _ rfl _ _ _ _ HG2.out Try.underlying76 rfl (by kernel_rfl) ?_) | (refine wpList_store_mid rfl _ _ _ rfl _ _ ([a', b', c', d'].map uv).toArray rfl rfl (HR2.out.there (by simp)) (by kernel_rfl) (all_oneCell_toArray HONE.out) ?_))
  have hW := HR2.out.whole ([a', b', c', d'].map uv) (by simp)
  refine bodyPost_ret (v := .agg ([a', b', c', d'].map uv).toArray) (results_cell_row rfl _ _ _ _ _ _ _ rfl hW Try.underlying76 rfl (by kernel_rfl)) rfl ?_
  exact ⟨rfl, bw hb2 (by omega) _ _⟩

end Go.Proofs.Ytcecjoodlmpgnaa
/- The contract of a word's scrambled: the first word of a round. -/
namespace Go.Proofs.Ytcecjoodlmpgnaa
open Go.RowKit

set_option maxRecDepth 100000 in
set_option maxHeartbeats 1000000 in
theorem scr_turn (a b c d : UInt8) (i own n gb : Nat) (w : World) (hx : Blk w gb 5 bxs) (hz : ((i : Int) % (own : Int) == 0) = true) (hq : (i : Int) / (own : Int) = ((n + 1 : Nat) : Int)) (hn : (n : Int) ≤ 1000) (ho : 0 < own) (hi : (i : Int) ≤ 1000) (ho2 : (own : Int) ≤ 1000) :
    Calls Try.prog 87 #[.agg #[uv a, uv b, uv c, uv d], .int .i64 (i : Int), .int .i64 (own : Int), .slice (some ⟨gb, 0, none⟩) 256 256] w fun e w' => e = .returned (.agg #[uv (box8 b ^^^ pw8 n), uv (box8 c), uv (box8 d), uv (box8 a)]) ∧ Below w.heap.size w w' := by
  have HX := Lib.hid hx
  have HT := Lib.hid (turned_any a b c d)
  have HC := Lib.hid (boxed_ex b c d a gb)
  have HP := Lib.hid (fun W => pow2_any n W hn)
  generalize box8 a = d' at HC ⊢
  generalize box8 b = a' at HC ⊢
  generalize box8 c = b' at HC ⊢
  generalize box8 d = c' at HC ⊢
  generalize pw8 n = p at HP ⊢
  have hxr := xor_byte a' p
  obtain ⟨x, hx'⟩ : ∃ x, a' ^^^ p = x := ⟨_, rfl⟩
  rw [hx'] at hxr ⊢
  have hon : ¬ own = 0 := by omega
  have hn1 : ((n + 1 : Nat) : Int) - 1 = (n : Int) := by omega
  obtain ⟨m, hm⟩ : ∃ m, n + 1 = m := ⟨_, rfl⟩
  rw [hm] at hq hn1
  have HM := Lib.hid hm
  have HWM : Hid (IntKind.i64.wrap (m : Int) = (m : Int) ∧ IntKind.i64.wrap (n : Int) = (n : Int)) := Lib.hid (by constructor <;> (rw [IntKind.wrap_i64]; omega))
  clear hx' hx hm
  go_enter Try.func87, Try.ntmps87
  go_wp2_with fail
  refine (HT.out _).mono ?_
  rintro e w0 ⟨rfl, hb0⟩
  have z0 := hb0.size
  have G0 := ((Blk.new w 76 #[uv a, uv b, uv c, uv d]).alloc (.cells #[.int .u8 0, .int .u8 0, .int .u8 0, .int .u8 0] 76)).below hb0
  have R0 := (Blk.newAt (w := w.alloc (.cells #[uv a, uv b, uv c, uv d] 76)) (g := w.heap.size + 1) (by simp) 76 #[.int .u8 0, .int .u8 0, .int .u8 0, .int .u8 0]).below hb0
  have hB0 : Below w.heap.size w w0 := bt (ba (ba (Below.refl _ _) _) _) hb0
  have HG0 := Lib.hid G0
  have HR0 := Lib.hid R0
  clear G0 R0 hb0 z0
  go_wp2_with fail
  refine (HC.out _ (HX.out.below hB0)).mono ?_
  rintro e w1 ⟨rfl, hb⟩
  have G := Lib.hid (HG0.out.below hb)
  have R := Lib.hid (HR0.out.below hb)
  have hb1 : Below w.heap.size w w1 := bt hB0 hb
  clear hb hB0 HG0 HR0 HX HC HT
  have HONE := Lib.hid (uvs_one [a', b', c', d'])
  have HONE2 := Lib.hid (uvs_one [x, b', c', d'])
  have HG2 := Lib.hid (G.out.whole ([a', b', c', d'].map uv) (by simp))
  have HR2 := Lib.hid (R.out.far_ (k := w.heap.size + 1) (g := w.heap.size) (by omega) 0 ([a', b', c', d'].map uv))
  simp only []
  go_upto_region 3 with (refine wpList_store_mid rfl _ _ _ rfl _ _ ([a', b', c', d'].map uv).toArray rfl rfl (G.out.there (by simp)) (by kernel_rfl) (all_oneCell_toArray HONE.out) ?_)
  generalize hw2 : World.setCells w1 w.heap.size 0 _ = w2
  rw [hw2] at HG2 HR2
  have hb2 : Below w.heap.size w w2 := by rw [← hw2]; exact bw hb1 (Nat.le_refl _) _ _
  clear hw2 G R hb1
  have c0 := HG2.out.cell 0
  have f0 := HG2.out.frozen 0
  simp only [List.map_cons, List.getElem?_toArray, List.getElem?_cons_zero] at c0
  go_wp2_with fail
  refine wp_region_held_drew (S := fun _ => True) (by kernel_rfl) trivial (fun hHeld => ?_)
  have c0' : w2.drew.cell? ⟨w.heap.size, 0, none⟩ = some (uv a') := c0
  have f0' : w2.drew.frozen? ⟨w.heap.size, 0, none⟩ = false := f0
  clear c0 f0
  refine wpAnyH_take (i := 0) (oi := ⟨some 18, _, _, _, _, _⟩) (v := ?_) rfl (by kernel_rfl) (by kernel_rfl) (by kernel_rfl) (fun _ _ _ h => h) (Or.inl ⟨by rfl, ?_⟩) (by assumption) ?_
  rotate_left
  · (intro w9 hSw; (try dsimp only at hSw); go_simp; try with_reducible rfl)
  try simp only [Act.put, List.setIfInBounds_toArray, List.set_cons_zero, List.set_cons_succ]
  refine wpAnyH_take (i := 2) (oi := ⟨some 20, _, _, _, _, _⟩) (v := ?_) rfl (by kernel_rfl) (by kernel_rfl) (by kernel_rfl) (fun _ _ _ h => h) (Or.inl ⟨by rfl, ?_⟩) (by assumption) ?_
  rotate_left
  · (intro w9 hSw; (try dsimp only at hSw); go_simp; try with_reducible rfl)
  try simp only [Act.put, List.setIfInBounds_toArray, List.set_cons_zero, List.set_cons_succ]
  refine wpAnyH_take (i := 3) (oi := ⟨some 21, _, _, _, _, _⟩) (v := ?_) rfl (by kernel_rfl) (by kernel_rfl) (by kernel_rfl) (fun _ _ _ h => h) (Or.inl ⟨by rfl, ?_⟩) (by assumption) ?_
  rotate_left
  · (intro w9 hSw; (try dsimp only at hSw); go_simp; try with_reducible rfl)
  try simp only [Act.put, List.setIfInBounds_toArray, List.set_cons_zero, List.set_cons_succ]
  refine wpAnyH_take (i := 4) (oi := ⟨some 22, _, _, _, _, _⟩) (v := .int .i64 (m : Int)) rfl (by kernel_rfl) (by kernel_rfl) (by kernel_rfl) (fun _ _ _ h => h) (Or.inl ⟨by rfl, ?_⟩) (by assumption) ?_
  · (intro w9 hSw; (try dsimp only at hSw); go_simp; (try rw [hq]); rw [HWM.out.1])
  try simp only [Act.put, List.setIfInBounds_toArray, List.set_cons_zero, List.set_cons_succ]
  refine wpAnyH_take (i := 5) (oi := ⟨some 23, _, _, _, _, _⟩) (v := .int .i64 (n : Int)) rfl (by kernel_rfl) (by kernel_rfl) (by kernel_rfl) (fun _ _ _ h => h) (Or.inl ⟨by rfl, ?_⟩) (by assumption) ?_
  · (intro w9 hSw; (try dsimp only at hSw); go_simp; (try rw [hn1]); rw [HWM.out.2])
  try simp only [Act.put, List.setIfInBounds_toArray, List.set_cons_zero, List.set_cons_succ]
  refine wpAnyH_ready (rs := [1, 6]) (by kernel_rfl) (by simp) ?_
  refine AllReadyH.cons (o := ⟨some 19, _, _, _, _, _⟩) rfl (fun K9 hK9 => ?_) ?_
  · skip
    go_simp
    refine hK9.out _ _ ?_ (fun hHeld => ?_)
    · trivial
    clear hK9 K9
    try simp only [Act.put, List.setIfInBounds_toArray, List.set_cons_zero, List.set_cons_succ]
    refine wpAnyH_ready (rs := [6]) (by kernel_rfl) (by simp) ?_
    refine AllReadyH.cons (o := ⟨some 24, _, _, _, _, _⟩) rfl (fun K9 hK9 => ?_) AllReadyH.nil
    go_simp
    go_at_call 80
    refine (HP.out _).mono ?_
    rintro e x6 ⟨rfl, rfl⟩
    go_wp2_with fail
    refine hK9.out _ _ ?_ (fun hHeld => ?_)
    · trivial
    clear hK9 K9
    try simp only [Act.put, List.setIfInBounds_toArray, List.set_cons_zero, List.set_cons_succ]
    refine wpAnyH_take (i := 7) (oi := ⟨some 25, _, _, _, _, _⟩) (v := uv x) rfl (by kernel_rfl) (by kernel_rfl) (by kernel_rfl) (fun _ _ _ h => h) (Or.inl ⟨by rfl, ?_⟩) (by assumption) ?_
    · (intro w9 hSw; (try dsimp only at hSw); go_simp; try with_reducible rfl)
    try simp only [Act.put, List.setIfInBounds_toArray, List.set_cons_zero, List.set_cons_succ]
    refine wpAnyH_take (i := 8) (oi := ⟨some 26, _, _, _, _, _⟩) (v := ?_) rfl (by kernel_rfl) (by kernel_rfl) (by kernel_rfl) (fun _ _ _ h => h) (Or.inl ⟨by rfl, ?_⟩) (by assumption) ?_
    rotate_left
    · (intro w9 hSw; (try dsimp only at hSw); go_simp; try with_reducible rfl)
    try simp only [Act.put, List.setIfInBounds_toArray, List.set_cons_zero, List.set_cons_succ]
    refine wpAnyH_ready (rs := [9]) (by kernel_rfl) (by simp) ?_
    refine AllReadyH.cons (o := ⟨none, _, _, _, _, _⟩) rfl (fun K9 hK9 => ?_) AllReadyH.nil
    go_simp
    refine hK9.out _ _ ?_ (fun hHeld => ?_)
    · trivial
    clear hK9 K9
    try simp only [Act.put, List.setIfInBounds_toArray, List.set_cons_zero, List.set_cons_succ]
    refine wpAnyH_done (by kernel_rfl) ?_ _
    have HG3 : Hid (Blk (w2.setCell ⟨w.heap.size, 0, none⟩ (uv x)).drew w.heap.size 76 ([x, b', c', d'].map uv).toArray) := Lib.hid (HG2.out.set_ 0 (uv x)).drew
    have HR3 := Lib.hid (HR2.out.far (p := ⟨w.heap.size, 0, none⟩) (by simp) (uv x)).drew
    have hb3 : Below w.heap.size w (w2.setCell ⟨w.heap.size, 0, none⟩ (uv x)).drew := (bs hb2 (Nat.le_refl _) (uv x)).drew
    generalize (w2.setCell ⟨w.heap.size, 0, none⟩ (uv x)).drew = w3 at HG3 HR3 hb3
    clear HG2 HR2 hb2 c0' f0' HONE
    go_wp2_with (first | (refine wpList_load_row rfl _ _ rfl _ rfl _ _ _ _ HG3.out Try.underlying76 rfl (by kernel_rfl) ?_) | (refine wpList_store_mid rfl _ _ _ rfl _ _ ([x, b', c', d'].map uv).toArray rfl rfl (HR3.out.there (by simp)) (by kernel_rfl) (all_oneCell_toArray HONE2.out) ?_))
    have hW := HR3.out.whole ([x, b', c', d'].map uv) (by simp)
    refine bodyPost_ret (v := .agg ([x, b', c', d'].map uv).toArray) (results_cell_row rfl _ _ _ _ _ _ _ rfl hW Try.underlying76 rfl (by kernel_rfl)) rfl ?_
    exact ⟨rfl, bw hb3 (by omega) _ _⟩
  refine AllReadyH.cons (o := ⟨some 24, _, _, _, _, _⟩) rfl (fun K9 hK9 => ?_) AllReadyH.nil
  · skip
    go_simp
    go_at_call 80
    refine (HP.out _).mono ?_
    rintro e x6 ⟨rfl, rfl⟩
    go_wp2_with fail
    refine hK9.out _ _ ?_ (fun hHeld => ?_)
    · trivial
    clear hK9 K9
    try simp only [Act.put, List.setIfInBounds_toArray, List.set_cons_zero, List.set_cons_succ]
    refine wpAnyH_ready (rs := [1]) (by kernel_rfl) (by simp) ?_
    refine AllReadyH.cons (o := ⟨some 19, _, _, _, _, _⟩) rfl (fun K9 hK9 => ?_) AllReadyH.nil
    go_simp
    refine hK9.out _ _ ?_ (fun hHeld => ?_)
    · trivial
    clear hK9 K9
    try simp only [Act.put, List.setIfInBounds_toArray, List.set_cons_zero, List.set_cons_succ]
    refine wpAnyH_take (i := 7) (oi := ⟨some 25, _, _, _, _, _⟩) (v := uv x) rfl (by kernel_rfl) (by kernel_rfl) (by kernel_rfl) (fun _ _ _ h => h) (Or.inl ⟨by rfl, ?_⟩) (by assumption) ?_
    · (intro w9 hSw; (try dsimp only at hSw); go_simp; try with_reducible rfl)
    try simp only [Act.put, List.setIfInBounds_toArray, List.set_cons_zero, List.set_cons_succ]
    refine wpAnyH_take (i := 8) (oi := ⟨some 26, _, _, _, _, _⟩) (v := ?_) rfl (by kernel_rfl) (by kernel_rfl) (by kernel_rfl) (fun _ _ _ h => h) (Or.inl ⟨by rfl, ?_⟩) (by assumption) ?_
    rotate_left
    · (intro w9 hSw; (try dsimp only at hSw); go_simp; try with_reducible rfl)
    try simp only [Act.put, List.setIfInBounds_toArray, List.set_cons_zero, List.set_cons_succ]
    refine wpAnyH_ready (rs := [9]) (by kernel_rfl) (by simp) ?_
    refine AllReadyH.cons (o := ⟨none, _, _, _, _, _⟩) rfl (fun K9 hK9 => ?_) AllReadyH.nil
    go_simp
    refine hK9.out _ _ ?_ (fun hHeld => ?_)
    · trivial
    clear hK9 K9
    try simp only [Act.put, List.setIfInBounds_toArray, List.set_cons_zero, List.set_cons_succ]
    refine wpAnyH_done (by kernel_rfl) ?_ _
    have HG3 : Hid (Blk (w2.setCell ⟨w.heap.size, 0, none⟩ (uv x)).drew w.heap.size 76 ([x, b', c', d'].map uv).toArray) := Lib.hid (HG2.out.set_ 0 (uv x)).drew
    have HR3 := Lib.hid (HR2.out.far (p := ⟨w.heap.size, 0, none⟩) (by simp) (uv x)).drew
    have hb3 : Below w.heap.size w (w2.setCell ⟨w.heap.size, 0, none⟩ (uv x)).drew := (bs hb2 (Nat.le_refl _) (uv x)).drew
    generalize (w2.setCell ⟨w.heap.size, 0, none⟩ (uv x)).drew = w3 at HG3 HR3 hb3
    clear HG2 HR2 hb2 c0' f0' HONE
    go_wp2_with (first | (refine wpList_load_row rfl _ _ rfl _ rfl _ _ _ _ HG3.out Try.underlying76 rfl (by kernel_rfl) ?_) | (refine wpList_store_mid rfl _ _ _ rfl _ _ ([x, b', c', d'].map uv).toArray rfl rfl (HR3.out.there (by simp)) (by kernel_rfl) (all_oneCell_toArray HONE2.out) ?_))
    have hW := HR3.out.whole ([x, b', c', d'].map uv) (by simp)
    refine bodyPost_ret (v := .agg ([x, b', c', d'].map uv).toArray) (results_cell_row rfl _ _ _ _ _ _ _ rfl hW Try.underlying76 rfl (by kernel_rfl)) rfl ?_
    exact ⟨rfl, bw hb3 (by omega) _ _⟩

/-- Any word, scrambled. -/
theorem scr_any (a b c d : UInt8) (i own gb : Nat) (w : World) (hx : Blk w gb 5 bxs) (h0 : own = 4 ∨ own = 8) (hi : own ≤ i) (hi2 : i ≤ 1000) :
    Calls Try.prog 87 #[.agg #[uv a, uv b, uv c, uv d], .int .i64 (i : Int), .int .i64 (own : Int), .slice (some ⟨gb, 0, none⟩) 256 256] w fun e w' => e = .returned (.agg ((scrW [a, b, c, d] i own).map uv).toArray) ∧ Below w.heap.size w w' := by
  by_cases hz : i % own = 0
  · have hd : 1 ≤ i / own := by rcases h0 with rfl | rfl <;> omega
    have hd2 : i / own ≤ 1000 := Nat.le_trans (Nat.div_le_self _ _) hi2
    have e : scrW [a, b, c, d] i own = [box8 b ^^^ pw8 (i / own - 1), box8 c, box8 d, box8 a] := by unfold scrW; rw [if_pos hz]; rfl
    rw [e]
    refine scr_turn a b c d i own (i / own - 1) gb w hx ?_ ?_ (by omega) (by omega) (by omega) (by omega)
    · simp only [beq_iff_eq]; omega
    · rw [show i / own - 1 + 1 = i / own by omega]; simp
  · by_cases h4 : own = 8 ∧ i % own = 4
    · have e : scrW [a, b, c, d] i own = [box8 a, box8 b, box8 c, box8 d] := by unfold scrW; rw [if_neg hz, if_pos h4]; rfl
      rw [e]
      obtain ⟨rfl, h4⟩ := h4
      exact scr_box a b c d i gb w hx h4
    · have e : scrW [a, b, c, d] i own = [a, b, c, d] := by unfold scrW; rw [if_neg hz, if_neg h4]
      rw [e]
      exact scr_same a b c d i own gb w h0 hz h4
end Go.Proofs.Ytcecjoodlmpgnaa
