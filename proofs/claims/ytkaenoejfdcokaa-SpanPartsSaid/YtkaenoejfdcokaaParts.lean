/- SpanParts is true of every two spans, and leaves its arguments as they were. -/
import Derived.Test.YtkaenoejfdcokaaClone
namespace Go.Proofs.Ytkaenoejfdcokaa
open Go.ChangeShapes Go.WideShapes Go.ChangeAt Go.RowKit Go.Joins

theorem less_is (f n g m A B : Int) (L : List (Int × Int)) (w : World) (f0 : 0 ≤ f) (n1 : 1 ≤ n) (fn : f + n ≤ 18446744073709551616) (g0 : 0 ≤ g) (m1 : 1 ≤ m) (gm : g + m ≤ 18446744073709551616) (HA : Hid (A = max f g)) (HB : Hid (B = min (f + (n - 1)) (g + (m - 1)))) (HL : Hid (lessL f n A B = L)) :
    Calls Try.prog 15 #[.agg #[.int .u64 f, .int .u64 n], .agg #[.int .u64 g, .int .u64 m]] w (LessPost w L) := by
  rw [← HL.out]
  exact less_any f n g m A B w f0 n1 fn g0 m1 gm HA HB
theorem cut_is (f n g m A B : Int) (w : World) (f0 : 0 ≤ f) (n1 : 1 ≤ n) (n2 : n ≤ 18446744073709551615) (fn : f + n ≤ 18446744073709551616) (g0 : 0 ≤ g) (m1 : 1 ≤ m) (gm : g + m ≤ 18446744073709551616) (HA : Hid (A = max f g)) (HB : Hid (B = min (f + (n - 1)) (g + (m - 1)))) (hm : A ≤ B) :
    Calls Try.prog 14 #[.agg #[.int .u64 f, .int .u64 n], .agg #[.int .u64 g, .int .u64 m]] w fun e w' => e = .returned (.tuple #[.agg #[.int .u64 A, .int .u64 (B - A + 1)], .int .i64 0]) ∧ Below w.heap.size w w' := by
  have h1 := HA.out
  have h2 := HB.out
  have := cut_meet f n g m w f0 n1 n2 fn g0 m1 gm (by omega)
  rw [← h1, ← h2] at this
  exact this
theorem rowCells_snoc (L : List (Int × Int)) (x : Int × Int) : rowCells (L ++ [x]) = rowCells L ++ [.int .u64 x.1, .int .u64 x.2] := by simp [rowCells]
theorem parts_value {W : World} {base : Nat} {e : TypeId} {v : Value} {P : List (Int × Int)} (h : W.ownsRow base e 2 v P.length (rowCells P)) (hne : P ≠ []) :
    ∃ g cap, v = .slice (some ⟨g, 0, none⟩) P.length cap ∧ g < W.heap.size ∧ P.length ≤ cap ∧ cap ≤ maxLen ∧ ∀ j (hj : j < P.length), W.cell? ⟨g, j * 2, none⟩ = some (.int .u64 P[j].1) ∧ W.cell? ⟨g, j * 2 + 1, none⟩ = some (.int .u64 P[j].2) := by
  rcases owned_cells h with ⟨_, e⟩ | ⟨g, cap, hv, hg, _, h1, h2, hc⟩
  · exact absurd e hne
  · exact ⟨g, cap, hv, hg, h1, h2, fun j hj => by have := hc j hj; rw [Nat.zero_add] at this; exact this⟩

set_option maxRecDepth 100000 in
set_option maxHeartbeats 4000000 in
theorem parts_m (f n g m A B : Int) (L P : List (Int × Int)) (w : World) (f0 : 0 ≤ f) (n1 : 1 ≤ n) (n2 : n ≤ 18446744073709551615) (fn : f + n ≤ 18446744073709551616) (g0 : 0 ≤ g) (m1 : 1 ≤ m) (gm : g + m ≤ 18446744073709551616) (HA : Hid (A = max f g)) (HB : Hid (B = min (f + (n - 1)) (g + (m - 1)))) (HL : Hid (lessL f n A B = L)) (hL2 : L.length ≤ 2) (HP : Hid (PartsOk f n P)) (hPne : P ≠ []) (hP3 : P.length ≤ 3) (HN : Hid (L.length + 1 = P.length)) (HR : Hid (rowCells L ++ [.int .u64 A, .int .u64 (B - A + 1)] = rowCells P)) (hm : A ≤ B) :
    Calls Try.prog 7 #[.agg #[.int .u64 f, .int .u64 n], .agg #[.int .u64 g, .int .u64 m]] w fun e w' => e = .returned (.bool true) ∧ Below w.heap.size w w' := by
  obtain ⟨i1, hi, hz0, hz1, hz2⟩ := info_parts info24
  go_enter Try.func7, Try.ntmps7
  go_wp2_with fail
  refine (cut_is f n g m A B _ f0 n1 n2 fn g0 m1 gm HA HB hm).mono ?_
  rintro e w1 ⟨rfl, hb⟩
  have A0 := At.later (v := .int .u64 f) (b := w.heap.size) (o := 0) ⟨by go_simp, by go_simp⟩ hb
  have A1 := At.later (v := .int .u64 n) (b := w.heap.size) (o := 1) ⟨by go_simp, by go_simp⟩ hb
  have G0 := At.later (v := .int .u64 g) (b := w.heap.size + 1) (o := 0) ⟨by go_simp, by go_simp⟩ hb
  have G1 := At.later (v := .int .u64 m) (b := w.heap.size + 1) (o := 1) ⟨by go_simp, by go_simp⟩ hb
  have C0 := At.new w1 #[.int .u64 A, .int .u64 (B - A + 1)] 24 (o := 0) (v := .int .u64 A) rfl
  have C1 := At.new w1 #[.int .u64 A, .int .u64 (B - A + 1)] 24 (o := 1) (v := .int .u64 (B - A + 1)) rfl
  have a0 := A0.1
  have a1 := A1.1
  have b0 := G0.1
  have b1 := G1.1
  have z0 : w.heap.size < w1.heap.size := A0.lt
  have z1 : w.heap.size + 1 < w1.heap.size := G0.lt
  have hB1 : Below w.heap.size w w1 := bt (ba (ba (Below.refl _ _) _) _) hb
  have hE1 : Below w1.heap.size w1 (w1.alloc (.cells #[.int .u64 A, .int .u64 (B - A + 1)] 24)) := (Below.refl _ _).alloc (Nat.le_refl _) _
  go_wp2_with fail
  refine (less_is f n g m A B L _ f0 n1 fn g0 m1 gm HA HB HL).mono ?_
  rintro e w2 ⟨v, rfl, ho, hb2⟩
  obtain ⟨va, vn, vc, rfl⟩ := ownsRow_slice ho
  have hE2 := bt hE1 hb2
  go_wp2_with fail
  refine (clone_any (by omega) ho).mono ?_
  rintro e w3 ⟨u, rfl, ho3, hb3⟩
  have hE3 := bt hE2 hb3
  have k0 := (C0.later (bt hb2 hb3)).1
  have k1 := (C1.later (bt hb2 hb3)).1
  obtain ⟨ua, un, uc, rfl⟩ := ownsRow_slice ho3
  go_wp2_with (at_builtin; refine wpList_append_own _ rfl (.tmp 48) (.tmp 50) 34 rfl w2.heap.size 24 i1 (.agg #[.int .u64 0, .int .u64 0]) 2 16 Try.underlying34 hi hz0 hz1 hz2 rfl (by decide) _ _ _ rfl (ownsRow_below ho3 ((Below.refl _ _).alloc (Nat.le_refl _) _)) ⟨w3.heap.size, 0, none⟩ 1 1 [.int .u64 A, .int .u64 (B - A + 1)] rfl rfl (cell_two_new _ _ _ _) (by simp [Value.oneCell']) (by unfold maxLen; omega) (by omega) (by have := hb3.size; simp; omega) ?_; intro v4 w4 hown4 hgrow4 _; rw [HN.out, HR.out] at hown4; obtain ⟨g4, cap4, rfl, hg4, hc4, hm4, hcl⟩ := parts_value hown4 hPne; have HC := Lib.hid hcl; clear hcl; have hF4 : Below w2.heap.size w2 w4 := (hb3.alloc hb3.size _).grown hgrow4 (by have := hb3.size; simp; omega) (ownsRow_from ho3))
  have hE4 := bt hE2 hF4
  unfold maxLen at hm4
  have Ax := A0.later hE4
  have Ay := A1.later hE4
  go_loopw [10, 54] (fun mny i wr => ∃ k : Nat, k ≤ P.length ∧ i = .int .i64 k ∧ mny = .int .u64 (sumTake P k) ∧ Below w4.heap.size w4 wr) (fun _ i _ => P.length - (intOf i).toNat)
  case atStart => exact ⟨0, Nat.zero_le _, rfl, rfl, Below.refl _ _⟩
  case round =>
    obtain ⟨k, hk, rfl, rfl, hbr⟩ := hrel
    obtain ⟨wo, rfl⟩ : ∃ wo : World, wo = wr := ⟨_, rfl⟩
    have Bx := Ax.later hbr
    have By := Ay.later hbr
    have ax0 := Bx.1
    have ax1 := By.1
    have hsb := sumTake_bd HP.out k hk
    obtain ⟨hs1, hs2⟩ := hsb
    by_cases hlt : k < P.length
    · have p0 := (hbr.cell (p := ⟨g4, k * 2, none⟩) hg4).trans (HC.out k hlt).1
      have p1 := (hbr.cell (p := ⟨g4, k * 2 + 1, none⟩) hg4).trans (HC.out k hlt).2
      obtain ⟨hok, hlo, hhi⟩ := HP.out.1 k hlt
      have HOK := Lib.hid hok
      have HLO := Lib.hid hlo
      have HHI := Lib.hid hhi
      clear hok hlo hhi
      have HS := Lib.hid (sumTake_succ P k hlt)
      have hs3 : 1 ≤ P[k].2 := HOK.out.2.1
      have hs4 : sumTake P k + P[k].2 ≤ n := by rw [← HS.out]; exact (sumTake_bd HP.out (k + 1) (by omega)).2
      have y0 : w.heap.size < wo.heap.size := by have := hbr.size; have := hE4.size; omega
      go_wp2_with fail
      refine (cut_inside (x := P[k].1) (y := P[k].2) _ HOK.out n1 n2 f0 fn HLO.out HHI.out).mono ?_
      rintro e w5 ⟨rfl, hb5⟩
      have X0 := (At.new wo #[.int .u64 P[k].1, .int .u64 P[k].2] 24 (o := 0) (v := .int .u64 P[k].1) rfl).later hb5
      have X1 := (At.new wo #[.int .u64 P[k].1, .int .u64 P[k].2] 24 (o := 1) (v := .int .u64 P[k].2) rfl).later hb5
      have x0 := X0.1
      have x1 := X1.1
      have y1 : wo.heap.size < w5.heap.size := X0.lt
      have hbr5 := bt (ba hbr _) hb5
      go_wp2
      have hbr6 := ba hbr5 (.cells #[.int .u64 P[k].1, .int .u64 P[k].2] 24)
      have X2 := X0.alloc (.cells #[.int .u64 P[k].1, .int .u64 P[k].2] 24)
      have X3 := X1.alloc (.cells #[.int .u64 P[k].1, .int .u64 P[k].2] 24)
      obtain ⟨w6, hw6⟩ : ∃ w6, w5.alloc (.cells #[.int .u64 P[k].1, .int .u64 P[k].2] 24) = w6 := ⟨_, rfl⟩
      rw [hw6] at hbr6 X2 X3 ⊢
      clear hw6 x0 x1 X0 X1 p0 p1 hbr5 hb5 ax0 ax1
      go_loopw [80] (fun j wi => ∃ t : Nat, t ≤ k ∧ j = .int .i64 t ∧ Below w6.heap.size w6 wi) (fun j _ => k - (intOf j).toNat)
      case atStart => exact ⟨0, Nat.zero_le _, rfl, Below.refl _ _⟩
      case round =>
        obtain ⟨t, ht, rfl, hbi⟩ := hrel
        have hbi4 := bt hbr6 hbi
        by_cases htk : t < k
        · have htP : t < P.length := by omega
          have q0 := (hbi4.cell (p := ⟨g4, t * 2, none⟩) hg4).trans (HC.out t htP).1
          have q1 := (hbi4.cell (p := ⟨g4, t * 2 + 1, none⟩) hg4).trans (HC.out t htP).2
          have x0 := (X2.later hbi).1
          have x1 := (X3.later hbi).1
          have y2 : wo.heap.size < wr.heap.size := (X2.later hbi).lt
          go_wp2_with fail
          refine (cut_apart (x := P[k].1) (y := P[k].2) (f := P[t].1) (n := P[t].2) _ HOK.out (HP.out.1 t htP).1 (HP.out.2.1 t k htk hlt)).mono ?_
          rintro e w7 ⟨rfl, hb7⟩
          go_wp2
          exact ⟨⟨t + 1, by omega, by go_num, ba (bt (ba hbi _) hb7) _⟩, by simp [intOf]; omega⟩
        · obtain rfl : t = k := by omega
          go_wp2
          exact ⟨⟨t + 1, by omega, by go_num, by rw [HS.out], hbi4⟩, by simp [intOf]; omega⟩
    · obtain rfl : k = P.length := by omega
      have hall : (sumTake P P.length == n) = true := by rw [sumTake_all, HP.out.2.2]; simp
      go_wp2_with fail
      refine (alive_any _).mono ?_
      rintro e w7 ⟨rfl, hb7⟩
      have ay1 := (By.later hb7).1
      go_wp2
      go_ret
      exact ⟨by simp, bt hB1 (bt (bt hE4 hbr) hb7)⟩

set_option maxRecDepth 100000 in
set_option maxHeartbeats 4000000 in
theorem parts_n (f n g m A B : Int) (P : List (Int × Int)) (w : World) (f0 : 0 ≤ f) (n1 : 1 ≤ n) (n2 : n ≤ 18446744073709551615) (fn : f + n ≤ 18446744073709551616) (g0 : 0 ≤ g) (m1 : 1 ≤ m) (gm : g + m ≤ 18446744073709551616) (HA : Hid (A = max f g)) (HB : Hid (B = min (f + (n - 1)) (g + (m - 1)))) (HL : Hid (lessL f n A B = P)) (HP : Hid (PartsOk f n P)) (hPne : P ≠ []) (hP3 : P.length ≤ 3) (hm : B < A) :
    Calls Try.prog 7 #[.agg #[.int .u64 f, .int .u64 n], .agg #[.int .u64 g, .int .u64 m]] w fun e w' => e = .returned (.bool true) ∧ Below w.heap.size w w' := by
  go_enter Try.func7, Try.ntmps7
  go_wp2_with fail
  refine (cut_none f n g m _ f0 n1 fn g0 m1 gm (by have := HA.out; have := HB.out; omega)).mono ?_
  rintro e w1 ⟨rfl, hb⟩
  have A0 := At.later (v := .int .u64 f) (b := w.heap.size) (o := 0) ⟨by go_simp, by go_simp⟩ hb
  have A1 := At.later (v := .int .u64 n) (b := w.heap.size) (o := 1) ⟨by go_simp, by go_simp⟩ hb
  have G0 := At.later (v := .int .u64 g) (b := w.heap.size + 1) (o := 0) ⟨by go_simp, by go_simp⟩ hb
  have G1 := At.later (v := .int .u64 m) (b := w.heap.size + 1) (o := 1) ⟨by go_simp, by go_simp⟩ hb
  have C0 := At.new w1 #[.int .u64 0, .int .u64 0] 24 (o := 0) (v := .int .u64 0) rfl
  have C1 := At.new w1 #[.int .u64 0, .int .u64 0] 24 (o := 1) (v := .int .u64 0) rfl
  have a0 := A0.1
  have a1 := A1.1
  have b0 := G0.1
  have b1 := G1.1
  have z0 : w.heap.size < w1.heap.size := A0.lt
  have z1 : w.heap.size + 1 < w1.heap.size := G0.lt
  have hB1 : Below w.heap.size w w1 := bt (ba (ba (Below.refl _ _) _) _) hb
  have hE1 : Below w1.heap.size w1 (w1.alloc (.cells #[.int .u64 0, .int .u64 0] 24)) := (Below.refl _ _).alloc (Nat.le_refl _) _
  go_wp2_with fail
  refine (less_is f n g m A B P _ f0 n1 fn g0 m1 gm HA HB HL).mono ?_
  rintro e w2 ⟨v, rfl, ho, hb2⟩
  obtain ⟨va, vn, vc, rfl⟩ := ownsRow_slice ho
  have hE2 := bt hE1 hb2
  go_wp2_with fail
  refine (clone_any (by omega) ho).mono ?_
  rintro e w3 ⟨u, rfl, ho3, hb3⟩
  have hE3 := bt hE2 hb3
  obtain ⟨g4, cap4, rfl, hg4, hc4, hm4, hcl⟩ := parts_value ho3 hPne
  have HC := Lib.hid hcl
  clear hcl
  have hF4 := hb3
  go_wp2_with fail
  have hE4 := bt hE2 hF4
  unfold maxLen at hm4
  have Ax := A0.later hE4
  have Ay := A1.later hE4
  go_loopw [10, 54] (fun mny i wr => ∃ k : Nat, k ≤ P.length ∧ i = .int .i64 k ∧ mny = .int .u64 (sumTake P k) ∧ Below w3.heap.size w3 wr) (fun _ i _ => P.length - (intOf i).toNat)
  case atStart => exact ⟨0, Nat.zero_le _, rfl, rfl, Below.refl _ _⟩
  case round =>
    obtain ⟨k, hk, rfl, rfl, hbr⟩ := hrel
    obtain ⟨wo, rfl⟩ : ∃ wo : World, wo = wr := ⟨_, rfl⟩
    have Bx := Ax.later hbr
    have By := Ay.later hbr
    have ax0 := Bx.1
    have ax1 := By.1
    have hsb := sumTake_bd HP.out k hk
    obtain ⟨hs1, hs2⟩ := hsb
    by_cases hlt : k < P.length
    · have p0 := (hbr.cell (p := ⟨g4, k * 2, none⟩) hg4).trans (HC.out k hlt).1
      have p1 := (hbr.cell (p := ⟨g4, k * 2 + 1, none⟩) hg4).trans (HC.out k hlt).2
      obtain ⟨hok, hlo, hhi⟩ := HP.out.1 k hlt
      have HOK := Lib.hid hok
      have HLO := Lib.hid hlo
      have HHI := Lib.hid hhi
      clear hok hlo hhi
      have HS := Lib.hid (sumTake_succ P k hlt)
      have hs3 : 1 ≤ P[k].2 := HOK.out.2.1
      have hs4 : sumTake P k + P[k].2 ≤ n := by rw [← HS.out]; exact (sumTake_bd HP.out (k + 1) (by omega)).2
      have y0 : w.heap.size < wo.heap.size := by have := hbr.size; have := hE4.size; omega
      go_wp2_with fail
      refine (cut_inside (x := P[k].1) (y := P[k].2) _ HOK.out n1 n2 f0 fn HLO.out HHI.out).mono ?_
      rintro e w5 ⟨rfl, hb5⟩
      have X0 := (At.new wo #[.int .u64 P[k].1, .int .u64 P[k].2] 24 (o := 0) (v := .int .u64 P[k].1) rfl).later hb5
      have X1 := (At.new wo #[.int .u64 P[k].1, .int .u64 P[k].2] 24 (o := 1) (v := .int .u64 P[k].2) rfl).later hb5
      have x0 := X0.1
      have x1 := X1.1
      have y1 : wo.heap.size < w5.heap.size := X0.lt
      have hbr5 := bt (ba hbr _) hb5
      go_wp2
      have hbr6 := ba hbr5 (.cells #[.int .u64 P[k].1, .int .u64 P[k].2] 24)
      have X2 := X0.alloc (.cells #[.int .u64 P[k].1, .int .u64 P[k].2] 24)
      have X3 := X1.alloc (.cells #[.int .u64 P[k].1, .int .u64 P[k].2] 24)
      obtain ⟨w6, hw6⟩ : ∃ w6, w5.alloc (.cells #[.int .u64 P[k].1, .int .u64 P[k].2] 24) = w6 := ⟨_, rfl⟩
      rw [hw6] at hbr6 X2 X3 ⊢
      clear hw6 x0 x1 X0 X1 p0 p1 hbr5 hb5 ax0 ax1
      go_loopw [80] (fun j wi => ∃ t : Nat, t ≤ k ∧ j = .int .i64 t ∧ Below w6.heap.size w6 wi) (fun j _ => k - (intOf j).toNat)
      case atStart => exact ⟨0, Nat.zero_le _, rfl, Below.refl _ _⟩
      case round =>
        obtain ⟨t, ht, rfl, hbi⟩ := hrel
        have hbi4 := bt hbr6 hbi
        by_cases htk : t < k
        · have htP : t < P.length := by omega
          have q0 := (hbi4.cell (p := ⟨g4, t * 2, none⟩) hg4).trans (HC.out t htP).1
          have q1 := (hbi4.cell (p := ⟨g4, t * 2 + 1, none⟩) hg4).trans (HC.out t htP).2
          have x0 := (X2.later hbi).1
          have x1 := (X3.later hbi).1
          have y2 : wo.heap.size < wr.heap.size := (X2.later hbi).lt
          go_wp2_with fail
          refine (cut_apart (x := P[k].1) (y := P[k].2) (f := P[t].1) (n := P[t].2) _ HOK.out (HP.out.1 t htP).1 (HP.out.2.1 t k htk hlt)).mono ?_
          rintro e w7 ⟨rfl, hb7⟩
          go_wp2
          exact ⟨⟨t + 1, by omega, by go_num, ba (bt (ba hbi _) hb7) _⟩, by simp [intOf]; omega⟩
        · obtain rfl : t = k := by omega
          go_wp2
          exact ⟨⟨t + 1, by omega, by go_num, by rw [HS.out], hbi4⟩, by simp [intOf]; omega⟩
    · obtain rfl : k = P.length := by omega
      have hall : (sumTake P P.length == n) = true := by rw [sumTake_all, HP.out.2.2]; simp
      go_wp2_with fail
      refine (alive_any _).mono ?_
      rintro e w7 ⟨rfl, hb7⟩
      have ay1 := (By.later hb7).1
      go_wp2
      go_ret
      exact ⟨by simp, bt hB1 (bt (bt hE4 hbr) hb7)⟩

set_option maxRecDepth 100000 in
set_option maxHeartbeats 4000000 in
theorem parts_bad (f n g m e : Int) (w : World) (f0 : 0 ≤ f) (f1 : f ≤ 18446744073709551615) (n1 : n ≤ 18446744073709551615) (g0 : 0 ≤ g) (g1 : g ≤ 18446744073709551615) (m1 : m ≤ 18446744073709551615) (h : Bad2 f n g m e) (e1 : 1 ≤ e) :
    Calls Try.prog 7 #[.agg #[.int .u64 f, .int .u64 n], .agg #[.int .u64 g, .int .u64 m]] w fun e' w' => e' = .returned (.bool true) ∧ Below w.heap.size w w' := by
  go_enter Try.func7, Try.ntmps7
  go_wp2_with fail
  refine (cut_bad f n g m e _ f0 f1 n1 g0 g1 m1 h e1).mono ?_
  rintro e' w1 ⟨rfl, hb⟩
  have A0 := At.later (v := .int .u64 f) (b := w.heap.size) (o := 0) ⟨by go_simp, by go_simp⟩ hb
  have A1 := At.later (v := .int .u64 n) (b := w.heap.size) (o := 1) ⟨by go_simp, by go_simp⟩ hb
  have G0 := At.later (v := .int .u64 g) (b := w.heap.size + 1) (o := 0) ⟨by go_simp, by go_simp⟩ hb
  have G1 := At.later (v := .int .u64 m) (b := w.heap.size + 1) (o := 1) ⟨by go_simp, by go_simp⟩ hb
  have a0 := A0.1
  have a1 := A1.1
  have b0 := G0.1
  have b1 := G1.1
  have z0 : w.heap.size < w1.heap.size := A0.lt
  have z1 : w.heap.size + 1 < w1.heap.size := G0.lt
  have hB1 : Below w.heap.size w w1 := bt (ba (ba (Below.refl _ _) _) _) hb
  go_wp2_with fail
  refine (less_bad f n g m e _ f0 f1 n1 g0 g1 m1 h e1).mono ?_
  rintro e' w2 ⟨rfl, hb2⟩
  go_wp2_with fail
  refine (alive_any _).mono ?_
  rintro e' w4 ⟨rfl, hb4⟩
  go_wp2
  go_ret
  exact ⟨by simp, bt (bt (ba hB1 _) hb2) hb4⟩

theorem parts_any (f n g m : Int) (w : World) (f0 : 0 ≤ f) (f1 : f ≤ 18446744073709551615) (n0 : 0 ≤ n) (n1 : n ≤ 18446744073709551615) (g0 : 0 ≤ g) (g1 : g ≤ 18446744073709551615) (m0 : 0 ≤ m) (m1 : m ≤ 18446744073709551615) :
    Calls Try.prog 7 #[.agg #[.int .u64 f, .int .u64 n], .agg #[.int .u64 g, .int .u64 m]] w fun e w' => e = .returned (.bool true) ∧ Below w.heap.size w w' := by
  rcases span_cases f n n0 with ⟨h1, h2⟩ | ⟨e, he, hb⟩
  · rcases span_cases g m m0 with ⟨k1, k2⟩ | ⟨e, he, hb⟩
    · by_cases hm : max f g ≤ min (f + (n - 1)) (g + (m - 1))
      · have hl := lessL_short f n (max f g) (min (f + (n - 1)) (g + (m - 1)))
        exact parts_m f n g m _ _ _ _ w f0 h1 n1 h2 g0 k1 k2 rfl rfl rfl hl (parts_meet f0 h1 h2 (by omega) (by omega) hm) (by simp) (by rw [List.length_append]; simp; omega) (by rw [List.length_append]; rfl) (rowCells_snoc _ (max f g, min (f + (n - 1)) (g + (m - 1)) - max f g + 1)).symm hm
      · have hl : lessL f n (max f g) (min (f + (n - 1)) (g + (m - 1))) = [(f, n)] := by unfold lessL; rw [if_pos (by omega)]
        have hp := parts_none (A := max f g) (B := min (f + (n - 1)) (g + (m - 1))) f0 h1 h2 (by omega)
        rw [hl] at hp
        exact parts_n f n g m _ _ [(f, n)] w f0 h1 n1 h2 g0 k1 k2 rfl rfl hl hp (by simp) (by simp) (by omega)
    · exact parts_bad f n g m e w f0 f1 n1 g0 g1 m1 (.inr ⟨h1, h2, hb⟩) he
  · exact parts_bad f n g m e w f0 f1 n1 g0 g1 m1 (.inl hb) he

set_option maxHeartbeats 800000 in
set_option maxRecDepth 100000 in
theorem parts_lifted (os : Os) (started : os.Started) (H : Type) (enc : TypeId × Value → H) :
    ReturnsInHanded {} Try.checked os 7 .any (Rows.spanPartsSpec.pre6 enc Try.prog Try.f7 Rows.spanPartsRow.domain false) (Rows.spanPartsSpec.post enc Try.prog Try.f7 false true false false) := by
  refine returnsInHanded_of_change (C := Try.checked) Try.own started (by kernel_rfl) Try.func7
    (ChangeSpec.witness6 (enc := enc) (C := Try.checked) false ⟨#[], #[.agg #[.int .u64 0, .int .u64 0], .agg #[.int .u64 0, .int .u64 0]], []⟩ 8 (by kernel_rfl) (by kernel_rfl) (by kernel_rfl) (by kernel_rfl)) ?_
  intro W base args ds gs before hval0 hW _ _
  have hval : ∀ (j : Nat) t v, Try.f7.params[j]? = some t → args[j]? = some v → Value.okWide Try.prog W .any base t v := hval0
  have hW' := hW
  obtain ⟨p, q, hA0, hV, rfl, _, _⟩ := hW
  have hA : DataW.TrodAll enc Try.prog W 0 (fun _ => true) true Try.f7.params.toList args.toList ds p := hA0
  rw [Try.params7] at hA hval
  obtain ⟨v0, v1, d0, d1, p0, p1, rfl, rfl, rfl, h0, h1⟩ := trodAll_two hA
  obtain ⟨rfl, rfl⟩ := trodVars_none hV
  obtain ⟨f, n, rfl, rfl, f0, f1, n0, n1⟩ := open_span (hval 0 24 v0 rfl rfl) h0
  obtain ⟨g, m, rfl, rfl, g0, g1, m0, m1⟩ := open_span (hval 1 24 v1 rfl rfl) h1
  clear hA0 hval0
  simp only [List.append_nil] at hW'
  refine (parts_any f n g m W f0 f1 n0 n1 g0 g1 m0 m1).mono fun e W' ⟨he, hn⟩ => ?_
  subst he
  refine ⟨_, rfl, ?_⟩
  refine ⟨_, _, _, [], [], [], hW', ?_, trodAll_mk2 (Below.trod Try.laidOut (by kernel_rfl) (of_decide_eq_true (by kernel_rfl)) h0 hn (fun x hx => by simp at hx)) (Below.trod Try.laidOut (by kernel_rfl) (of_decide_eq_true (by kernel_rfl)) h1 hn (fun x hx => by simp at hx)), rfl, hn.frame _, fun h => by cases h⟩
  exact trodAll_mk1 (shut_bool Try.underlying4 true)

/-- SpanParts, for every two spans. -/
theorem parts_holds : Rows.SpanPartsSaid :=
  OpenClaim.holds_of_wide 7 Try.f7 rfl rfl rfl rfl rfl rfl rfl ⟨rfl, rfl, rfl, rfl, rfl⟩ rfl rfl rfl rfl rfl (by kernel_rfl) Try.func7 (by kernel_rfl)
    (of_decide_eq_true (by kernel_rfl)) (by unfold Func.isWrapper; rw [if_neg (of_decide_eq_false (by kernel_rfl))]; exact ⟨rfl, rfl⟩)
    (fun os started H enc _ => parts_lifted os started H enc)
#print axioms parts_holds

end Go.Proofs.Ytkaenoejfdcokaa
