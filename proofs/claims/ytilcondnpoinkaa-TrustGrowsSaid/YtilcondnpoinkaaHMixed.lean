/- The contract of mixed: a state mixed with a block. -/
import Derived.Test.YtilcondnpoinkaaHSpread
import Derived.Test.YtilcondnpoinkaaHMix
namespace Go.Proofs.Ytilcondnpoinkaa
open Go.RowKit

theorem row_at_ (L : List Nat) (t : Nat) (h : t < L.length) : ((L.map wv).toArray)[t]? = some (wv (wn L t)) := by
  rw [wn_get L t h]
  simp [h]
theorem mixN_succ (s ks ws : List Nat) (t a b c d e f g h : Nat) (H : mixN s ks ws t = [a, b, c, d, e, f, g, h]) : mixN s ks ws (t + 1) = roundL a b c d e f g h (wn ks t) (wn ws t) := by
  rw [mixN, H]; rfl

theorem xor_ones (e : Nat) (h : e < 4294967296) : 4294967295 ^^^ e = 4294967295 - e := by
  have h1 : (BitVec.allOnes 32 ^^^ BitVec.ofNat 32 e).toNat = (~~~ BitVec.ofNat 32 e).toNat := by rw [BitVec.allOnes_xor]
  rw [BitVec.toNat_xor, BitVec.toNat_not, BitVec.toNat_allOnes, BitVec.toNat_ofNat, Nat.mod_eq_of_lt h] at h1
  exact h1
theorem not_int (e : Nat) (h : e < 4294967296) : bits .xor .u32 (if IntKind.u32.signed = true then -1 else IntKind.u32.max) (e : Int) = ((4294967295 - e : Nat) : Int) := by
  have e1 : (if IntKind.u32.signed = true then -1 else IntKind.u32.max : Int) = ((4294967295 : Nat) : Int) := by decide
  rw [e1, u32_xor_nat _ _ (by omega) h, xor_ones e h]
theorem choice_nat (e f g : Nat) (he : e < 4294967296) (hf : f < 4294967296) (hg : g < 4294967296) : bits .xor .u32 (bits .and .u32 (e : Int) (f : Int)) (bits .and .u32 ((4294967295 - e : Nat) : Int) (g : Int)) = ((choice e f g : Nat) : Int) := by
  rw [← choice_int e f g he hf hg]
  have e1 : (4294967295 : Int) - (e : Int) = ((4294967295 - e : Nat) : Int) := by omega
  rw [e1]

/-- The new state, so many of its words being made, and the others as the rounds left them. -/
def nrow (M S : List Nat) (i : Nat) : List Nat := ((List.range i).map fun j => (wn M j + wn S j) % 4294967296) ++ M.drop i
theorem nrow_all (M S : List Nat) (h : M.length = 8) : ((List.range 8).map fun j => (wn M j + wn S j) % 4294967296) = nrow M S 8 := by
  unfold nrow
  rw [List.drop_of_length_le (by omega), List.append_nil]
theorem nrow_len (M S : List Nat) (i : Nat) (h : M.length = 8) (hi : i ≤ 8) : (nrow M S i).length = 8 := by simp [nrow]; omega
theorem nrow_at (M S : List Nat) (i : Nat) (h : M.length = 8) (hi : i < 8) : (((nrow M S i).map wv).toArray)[i]? = some (wv (wn M i)) := by
  have e : M.drop i = M[i] :: M.drop (i + 1) := List.drop_eq_getElem_cons (by omega)
  rw [wn_get M i (by omega), nrow, e]
  generalize M[i] = m
  generalize M.drop (i + 1) = R
  simp
theorem nrow_set (M S : List Nat) (i : Nat) (h : M.length = 8) (hi : i < 8) : (((nrow M S i).map wv).toArray).setIfInBounds i (wv ((wn M i + wn S i) % 4294967296)) = ((nrow M S (i + 1)).map wv).toArray := by
  have e : M.drop i = M[i] :: M.drop (i + 1) := List.drop_eq_getElem_cons (by omega)
  unfold nrow
  rw [e, List.range_succ]
  simp only [List.map_append, List.map_cons, List.map_nil]
  generalize M.drop (i + 1) = R
  generalize M[i] = m
  generalize (wn M i + wn S i) % 4294967296 = n
  simp

set_option maxRecDepth 100000 in
set_option maxHeartbeats 4000000 in
theorem mixed_any (s0 s1 s2 s3 s4 s5 s6 s7 : Nat) (B : List UInt8) (kb : Nat) (w : World) (hs : ∀ x ∈ [s0, s1, s2, s3, s4, s5, s6, s7], x < 4294967296) (hB : B.length = 64) (hk : Blk w kb 74 (keysL.map wv).toArray) :
    Calls Try.prog 49 #[.agg #[wv s0, wv s1, wv s2, wv s3, wv s4, wv s5, wv s6, wv s7], .string ⟨B.toArray⟩, .pointer (some ⟨kb, 0, none⟩)] w fun e w' => e = .returned (.agg ((mixL [s0, s1, s2, s3, s4, s5, s6, s7] B).map wv).toArray) ∧ Below w.heap.size w w' := by
  have hkl := hk.lt
  have HSP : Hid (∀ W, Calls Try.prog 65 #[.string ⟨B.toArray⟩] W fun e w' => e = .returned (.agg ((sched B 64).map wv).toArray) ∧ Below W.heap.size W w') := Lib.hid (fun W => spread_any B hB W)
  have hWl := sched_len B 64
  have hWt := sched_lt B 64
  obtain ⟨W, hW⟩ : ∃ W, sched B 64 = W := ⟨_, rfl⟩
  rw [hW] at HSP hWl hWt
  have HM : Hid (mixL [s0, s1, s2, s3, s4, s5, s6, s7] B = (List.range 8).map fun i => (wn (mixN [s0, s1, s2, s3, s4, s5, s6, s7] keysL W 64) i + wn [s0, s1, s2, s3, s4, s5, s6, s7] i) % 4294967296) := Lib.hid (by unfold mixL; rw [hW])
  have HK := Lib.hid hk
  have HS := Lib.hid hs
  have HWL := Lib.hid hWl
  have HWT := Lib.hid hWt
  clear hk hs hW hB hWl hWt
  go_enter Try.func49, Try.ntmps49
  go_wp2_with fail
  refine (HSP.out _).mono ?_
  rintro e w1 ⟨rfl, hb1⟩
  have hB1 : Below w.heap.size w w1 := (ba (ba (Below.refl _ _) _) _).trans (hb1.mono (by simp; omega))
  have R1 : Hid (Blk w1 (w.heap.size + 1) 77 #[wv 0, wv 0, wv 0, wv 0, wv 0, wv 0, wv 0, wv 0]) := Lib.hid (Blk.below (heap_alloc2_new w _ _) hb1)
  have hq1 : w.heap.size + 2 ≤ w1.heap.size := by have := hb1.size; simp at this; omega
  have K1 := Lib.hid (((HK.out.alloc _).alloc _).below hb1)
  have S1 : Hid (Blk w1 w.heap.size 77 #[wv s0, wv s1, wv s2, wv s3, wv s4, wv s5, wv s6, wv s7]) := Lib.hid (((Blk.new w _ _).alloc _).below hb1)
  clear hb1 HK
  have hsz : (W.map wv).length = 64 := by rw [List.length_map, HWL.out]
  have HSZ := Lib.hid hsz
  have HONE := Lib.hid (words_one W)
  have HZ := Lib.hid (Blk.new w1 73 (srow B 0))
  have HZS := Lib.hid (srow_size B 0 (by omega))
  clear hsz
  go_wp2_with (refine wpList_store_mid rfl _ _ _ rfl _ _ (W.map wv).toArray rfl rfl (HZ.out.there (by rw [List.size_toArray, HSZ.out, HZS.out]; exact Nat.le_refl _)) (by rw [List.size_toArray, HSZ.out]; kernel_rfl) (all_oneCell_toArray HONE.out) ?_)
  generalize hw2 : World.setCells (World.alloc w1 (Obj.cells _ 73)) w1.heap.size 0 (List.map wv W) = w2
  obtain ⟨q, hq⟩ : ∃ q, w1.heap.size = q := ⟨_, rfl⟩
  have K2 : Hid (Blk w2 kb 74 (keysL.map wv).toArray) := Lib.hid (by rw [← hw2]; exact (K1.out.alloc _).far_ (by omega) _ _)
  have S2 : Hid (Blk w2 w.heap.size 77 #[wv s0, wv s1, wv s2, wv s3, wv s4, wv s5, wv s6, wv s7]) := Lib.hid (by rw [← hw2]; exact (S1.out.alloc _).far_ (by omega) _ _)
  have R2 : Hid (Blk w2 (w.heap.size + 1) 77 #[wv 0, wv 0, wv 0, wv 0, wv 0, wv 0, wv 0, wv 0]) := Lib.hid (by rw [← hw2]; exact (R1.out.alloc _).far_ (by omega) _ _)
  have W2 : Hid (Blk w2 q 73 (W.map wv).toArray) := Lib.hid (by rw [← hw2, ← hq]; exact HZ.out.whole (W.map wv) (by rw [HSZ.out, HZS.out]))
  have hB2 : Below w.heap.size w w2 := by rw [← hw2]; exact bw (ba hB1 _) (by omega) _ _
  rw [hq] at hq1 ⊢
  clear hw2 hq K1 S1 R1 HZ HZS hB1 w1
  have c0 := S2.out.cell 0
  have c1 := S2.out.cell 1
  have c2 := S2.out.cell 2
  have c3 := S2.out.cell 3
  have c4 := S2.out.cell 4
  have c5 := S2.out.cell 5
  have c6 := S2.out.cell 6
  have c7 := S2.out.cell 7
  simp only [List.getElem?_toArray, List.getElem?_cons_zero, List.getElem?_cons_succ] at c0 c1 c2 c3 c4 c5 c6 c7
  go_quiet (fail)
  clear c0 c1 c2 c3 c4 c5 c6 c7
  obtain ⟨w3, hw3⟩ := drewN_name w2 nq
  rw [hw3]
  have K3 : Hid (Blk w3 kb 74 (keysL.map wv).toArray) := Lib.hid (by rw [← hw3]; exact K2.out.drewN _)
  have S3 : Hid (Blk w3 w.heap.size 77 #[wv s0, wv s1, wv s2, wv s3, wv s4, wv s5, wv s6, wv s7]) := Lib.hid (by rw [← hw3]; exact S2.out.drewN _)
  have R3 : Hid (Blk w3 (w.heap.size + 1) 77 #[wv 0, wv 0, wv 0, wv 0, wv 0, wv 0, wv 0, wv 0]) := Lib.hid (by rw [← hw3]; exact R2.out.drewN _)
  have W3 : Hid (Blk w3 q 73 (W.map wv).toArray) := Lib.hid (by rw [← hw3]; exact W2.out.drewN _)
  have hB3 : Below w.heap.size w w3 := by rw [← hw3]; exact bdn' hB2 _
  clear hw3 hB2 K2 S2 R2 W2
  go_wp2_with fail
  go_loopw [8, 9, 10, 11, 12, 13, 14, 15, 39] (fun va vb vc vd ve vf vg vh iv wr => ∃ t a b c d e f g h : Nat, t ≤ 64 ∧ iv = .int .i64 t ∧ va = wv a ∧ vb = wv b ∧ vc = wv c ∧ vd = wv d ∧ ve = wv e ∧ vf = wv f ∧ vg = wv g ∧ vh = wv h ∧ Hid (mixN [s0, s1, s2, s3, s4, s5, s6, s7] keysL W t = [a, b, c, d, e, f, g, h]) ∧ Hid (Blk wr kb 74 (keysL.map wv).toArray) ∧ Hid (Blk wr w.heap.size 77 #[wv s0, wv s1, wv s2, wv s3, wv s4, wv s5, wv s6, wv s7]) ∧ Hid (Blk wr (w.heap.size + 1) 77 #[wv 0, wv 0, wv 0, wv 0, wv 0, wv 0, wv 0, wv 0]) ∧ Hid (Blk wr q 73 (W.map wv).toArray) ∧ Below w.heap.size w wr) (fun _ _ _ _ _ _ _ _ iv _ => 64 - (intOf iv).toNat)
  case atStart => exact ⟨0, s0, s1, s2, s3, s4, s5, s6, s7, Nat.zero_le _, rfl, rfl, rfl, rfl, rfl, rfl, rfl, rfl, rfl, Lib.hid rfl, K3, S3, R3, W3, hB3⟩
  case round =>
    clear K3 S3 R3 W3 hB3
    obtain ⟨t, a, b, c, d, e, f, g, h, ht, rfl, rfl, rfl, rfl, rfl, rfl, rfl, rfl, rfl, HN, K4, S4, R4, W4, hB4⟩ := hrel
    have hlts := mixN_lt [s0, s1, s2, s3, s4, s5, s6, s7] keysL W HS.out t
    rw [HN.out] at hlts
    by_cases hlt : t < 64
    · have la := hlts a (by simp)
      have lb := hlts b (by simp)
      have lc := hlts c (by simp)
      have le := hlts e (by simp)
      have lf := hlts f (by simp)
      have lg := hlts g (by simp)
      have oK := row_at_ keysL t (by rw [keys_len]; exact hlt)
      have oW := row_at_ W t (by rw [HWL.out]; exact hlt)
      have hR := mixN_succ _ keysL W t a b c d e f g h HN.out
      obtain ⟨k, hk⟩ : ∃ k, wn keysL t = k := ⟨_, rfl⟩
      obtain ⟨x, hx⟩ : ∃ x, wn W t = x := ⟨_, rfl⟩
      rw [hk] at oK hR
      rw [hx] at oW hR
      have hE := bigE_int e le
      have hA := bigA_int a la
      have hC := choice_nat e f g le lf lg
      have hNe := not_int e le
      generalize 4294967295 - e = ne at hC hNe
      have hJ := major_int a b c la lb lc
      have hR0 : roundL a b c d e f g h k x = [((h + bigE e + choice e f g + k + x) % 4294967296 + (bigA a + major a b c) % 4294967296) % 4294967296, a, b, c, (d + (h + bigE e + choice e f g + k + x) % 4294967296) % 4294967296, e, f, g] := rfl
      rw [hR0] at hR
      generalize bigE e = E at hE hR
      generalize bigA a = A at hA hR
      generalize choice e f g = C at hC hR
      generalize major a b c = J at hJ hR
      obtain ⟨T, hT'⟩ : ∃ T, (h + E + C + k + x) % 4294967296 = T := ⟨_, rfl⟩
      obtain ⟨U, hU'⟩ : ∃ U, (A + J) % 4294967296 = U := ⟨_, rfl⟩
      obtain ⟨V, hV'⟩ : ∃ V, (T + U) % 4294967296 = V := ⟨_, rfl⟩
      obtain ⟨D, hD'⟩ : ∃ D, (d + T) % 4294967296 = D := ⟨_, rfl⟩
      obtain ⟨y1, hy1⟩ : ∃ y, (h + E) % 4294967296 = y := ⟨_, rfl⟩
      obtain ⟨y2, hy2⟩ : ∃ y, (y1 + C) % 4294967296 = y := ⟨_, rfl⟩
      obtain ⟨y3, hy3⟩ : ∃ y, (y2 + k) % 4294967296 = y := ⟨_, rfl⟩
      rw [hT', hU', hV', hD'] at hR
      have v1 : IntKind.u32.wrap ((h : Int) + (E : Int)) = (y1 : Int) := by rw [IntKind.wrap_u32]; omega
      have v2 : IntKind.u32.wrap ((y1 : Int) + (C : Int)) = (y2 : Int) := by rw [IntKind.wrap_u32]; omega
      have v3 : IntKind.u32.wrap ((y2 : Int) + (k : Int)) = (y3 : Int) := by rw [IntKind.wrap_u32]; omega
      have v4 : IntKind.u32.wrap ((y3 : Int) + (x : Int)) = (T : Int) := by rw [IntKind.wrap_u32]; omega
      have V5 : Hid (IntKind.u32.wrap ((A : Int) + (J : Int)) = (U : Int)) := Lib.hid (by rw [IntKind.wrap_u32]; omega)
      have V6 : Hid (IntKind.u32.wrap ((T : Int) + (U : Int)) = (V : Int)) := Lib.hid (by rw [IntKind.wrap_u32]; omega)
      have V7 : Hid (IntKind.u32.wrap ((d : Int) + (T : Int)) = (D : Int)) := Lib.hid (by rw [IntKind.wrap_u32]; omega)
      have HR := Lib.hid hR
      have HA := Lib.hid hA
      have HJ := Lib.hid hJ
      have r6 : Hid (∀ m, Calls Try.prog 66 #[.int .u32 (e : Int), .int .i64 6] (wr.drewN m) fun e' w' => e' = .returned (.int .u32 (ror e 6 : Nat)) ∧ ∃ q, w' = wr.drewN q) := Lib.hid fun m => cror_at e 6 6 wr le rfl (by omega) (by omega) m
      have r11 : Hid (∀ m, Calls Try.prog 66 #[.int .u32 (e : Int), .int .i64 11] (wr.drewN m) fun e' w' => e' = .returned (.int .u32 (ror e 11 : Nat)) ∧ ∃ q, w' = wr.drewN q) := Lib.hid fun m => cror_at e 11 11 wr le rfl (by omega) (by omega) m
      have r25 : Hid (∀ m, Calls Try.prog 66 #[.int .u32 (e : Int), .int .i64 25] (wr.drewN m) fun e' w' => e' = .returned (.int .u32 (ror e 25 : Nat)) ∧ ∃ q, w' = wr.drewN q) := Lib.hid fun m => cror_at e 25 25 wr le rfl (by omega) (by omega) m
      have pt : (0 : Int) ≤ (t : Int) := by omega
      have qt : (t : Int) < 64 := by omega
      have cK : wr.cell? ⟨kb, t, none⟩ = some (wv k) := (K4.out.cell _).trans oK
      have cW : wr.cell? ⟨q, t, none⟩ = some (wv x) := (W4.out.cell _).trans oW
      have LA := Lib.hid la
      clear hR hR0 hA hJ hT' hU' hV' hD' hy1 hy2 hy3 hk hx oK oW hlts la lb lc lf lg HS
      go_wp2_with fail
      go_quiet ((go_at_call 66; with_reducible first | exact r6.out _ | exact r11.out _ | exact r25.out _))
      clear cK cW r6 r11 r25 v1 v2 v3 v4 hE hC hNe le
      obtain ⟨w5, hw5⟩ := drewN_name wr nq
      rw [hw5]
      have K5 : Hid (Blk w5 kb 74 (keysL.map wv).toArray) := Lib.hid (by rw [← hw5]; exact K4.out.drewN _)
      have S5 : Hid (Blk w5 w.heap.size 77 #[wv s0, wv s1, wv s2, wv s3, wv s4, wv s5, wv s6, wv s7]) := Lib.hid (by rw [← hw5]; exact S4.out.drewN _)
      have R5 : Hid (Blk w5 (w.heap.size + 1) 77 #[wv 0, wv 0, wv 0, wv 0, wv 0, wv 0, wv 0, wv 0]) := Lib.hid (by rw [← hw5]; exact R4.out.drewN _)
      have W5 : Hid (Blk w5 q 73 (W.map wv).toArray) := Lib.hid (by rw [← hw5]; exact W4.out.drewN _)
      have hB5 : Below w.heap.size w w5 := by rw [← hw5]; exact bdn' hB4 _
      clear hw5 hB4 K4 S4 R4 W4
      have hA := HA.out
      have hJ := HJ.out
      have v5 := V5.out
      have v6 := V6.out
      have v7 := V7.out
      go_wp2_with ((first | (with_reducible refine (cror_k a 2 2 w5 LA.out rfl (by omega) (by omega)).mono ?_) | (with_reducible refine (cror_k a 13 13 w5 LA.out rfl (by omega) (by omega)).mono ?_) | (with_reducible refine (cror_k a 22 22 w5 LA.out rfl (by omega) (by omega)).mono ?_)); rintro e w' ⟨rfl, rfl⟩)
      refine ⟨⟨t + 1, V, a, b, c, D, e, f, g, by omega, by go_num, rfl, rfl, rfl, rfl, rfl, rfl, rfl, rfl, Lib.hid HR.out, K5, S5, R5, W5, hB5⟩, by simp [intOf]; omega⟩
    · have hlts0 := hlts
      have ht64 : t = 64 := by omega
      rw [ht64] at HN
      clear ht64 hlts K4 W4
      have HM2 : Hid (mixL [s0, s1, s2, s3, s4, s5, s6, s7] B = nrow [a, b, c, d, e, f, g, h] [s0, s1, s2, s3, s4, s5, s6, s7] 8) := Lib.hid (by rw [HM.out, HN.out, nrow_all _ _ rfl])
      clear HM HN HSP
      have HZ := Lib.hid (Blk.new wr 77 #[wv a, wv b, wv c, wv d, wv e, wv f, wv g, wv h])
      go_wp2_with fail
      obtain ⟨p, hp⟩ : ∃ p, wr.heap.size = p := ⟨_, rfl⟩
      have hpq := hB4.size
      generalize hw6 : World.alloc wr (Obj.cells _ 77) = w6
      have P6 : Hid (Blk w6 p 77 ((nrow [a, b, c, d, e, f, g, h] [s0, s1, s2, s3, s4, s5, s6, s7] 0).map wv).toArray) := Lib.hid (by rw [← hw6, ← hp]; exact HZ.out)
      have n0 := S4.out.lt
      have n1 := R4.out.lt
      have S6 : Hid (Blk w6 w.heap.size 77 #[wv s0, wv s1, wv s2, wv s3, wv s4, wv s5, wv s6, wv s7]) := Lib.hid (by rw [← hw6]; exact S4.out.alloc _)
      have R6 : Hid (Blk w6 (w.heap.size + 1) 77 #[wv 0, wv 0, wv 0, wv 0, wv 0, wv 0, wv 0, wv 0]) := Lib.hid (by rw [← hw6]; exact R4.out.alloc _)
      have hB6 : Below w.heap.size w w6 := by rw [← hw6]; exact ba hB4 _
      rw [hp] at hpq n0 n1 ⊢
      have HMl : Hid (∀ i, wn [a, b, c, d, e, f, g, h] i < 4294967296) := Lib.hid (fun i => wn_lt hlts0 i)
      have HSl : Hid (∀ i, wn [s0, s1, s2, s3, s4, s5, s6, s7] i < 4294967296) := Lib.hid (fun i => wn_lt HS.out i)
      have HSa : Hid (∀ i, i < 8 → (#[wv s0, wv s1, wv s2, wv s3, wv s4, wv s5, wv s6, wv s7])[i]? = some (wv (wn [s0, s1, s2, s3, s4, s5, s6, s7] i))) := Lib.hid (fun i hi => row_at_ [s0, s1, s2, s3, s4, s5, s6, s7] i hi)
      obtain ⟨M, hM⟩ : ∃ M, [a, b, c, d, e, f, g, h] = M := ⟨_, rfl⟩
      have hMl : M.length = 8 := by rw [← hM]; rfl
      obtain ⟨S, hSS⟩ : ∃ S, [s0, s1, s2, s3, s4, s5, s6, s7] = S := ⟨_, rfl⟩
      rw [hM, hSS] at P6 HM2
      rw [hM] at HMl
      rw [hSS] at HSl HSa
      have HML := Lib.hid hMl
      have HSS := Lib.hid hSS
      clear hw6 hp hB4 S4 R4 HZ HS hlts0 hM hMl hSS
      go_loopw [113] (fun iv wx => ∃ i : Nat, i ≤ 8 ∧ iv = .int .i64 i ∧ Hid (Blk wx p 77 ((nrow M S i).map wv).toArray) ∧ Hid (Blk wx w.heap.size 77 #[wv s0, wv s1, wv s2, wv s3, wv s4, wv s5, wv s6, wv s7]) ∧ Hid (Blk wx (w.heap.size + 1) 77 #[wv 0, wv 0, wv 0, wv 0, wv 0, wv 0, wv 0, wv 0]) ∧ Below w.heap.size w wx) (fun iv _ => 8 - (intOf iv).toNat)
      case atStart => exact ⟨0, Nat.zero_le _, rfl, P6, S6, R6, hB6⟩
      case round =>
        clear P6 S6 R6 hB6
        obtain ⟨i, hi, rfl, P7, S7, R7, hB7⟩ := hrel
        by_cases hil : i < 8
        · have c1 : wr.cell? ⟨p, i, none⟩ = some (wv (wn M i)) := (P7.out.cell i).trans (nrow_at M S i HML.out hil)
          have c2 : wr.cell? ⟨w.heap.size, i, none⟩ = some (wv (wn S i)) := (S7.out.cell i).trans (HSa.out i hil)
          have f1 : wr.frozen? ⟨p, i, none⟩ = false := P7.out.frozen i
          have hx := HMl.out i
          have hy := HSl.out i
          have hset := nrow_set M S i HML.out hil
          generalize wn M i = x at c1 hx hset
          generalize wn S i = y at c2 hy hset
          obtain ⟨z, hz⟩ : ∃ z, (x + y) % 4294967296 = z := ⟨_, rfl⟩
          have v1 : IntKind.u32.wrap ((x : Int) + (y : Int)) = (z : Int) := by rw [IntKind.wrap_u32]; omega
          rw [hz] at hset
          have HSET := Lib.hid hset
          have pi : (0 : Int) ≤ (i : Int) := by omega
          have qi : (i : Int) < 8 := by omega
          clear hz hset
          go_wp2_with fail
          go_region
          go_wp2_with fail
          exact ⟨⟨i + 1, by omega, by go_num, Lib.hid (by have := (P7.out.set_ i (wv z)).drew; rw [HSET.out] at this; exact this), Lib.hid (S7.out.far (by simp; omega) _).drew, Lib.hid (R7.out.far (by simp; omega) _).drew, (bs hB7 (by omega) _).drew⟩, by simp [intOf]; omega⟩
        · have hi8 : i = 8 := by omega
          rw [hi8] at P7
          have hsz := nrow_len M S 8 HML.out (Nat.le_refl 8)
          have HONE := Lib.hid (words_one (nrow M S 8))
          obtain ⟨N, hN⟩ : ∃ N, nrow M S 8 = N := ⟨_, rfl⟩
          rw [hN] at P7 HM2 HONE hsz
          have hsz2 : (N.map wv).length = 8 := by rw [List.length_map, hsz]
          have HSZ2 := Lib.hid hsz2
          clear hi8 hsz hN hsz2
          go_wp2_with (first | (refine wpList_load_row rfl _ _ rfl _ rfl _ _ _ _ P7.out Try.underlying77 rfl (by rw [List.size_toArray, HSZ2.out]; kernel_rfl) ?_) | (refine wpList_store_mid rfl _ _ _ rfl _ _ (N.map wv).toArray rfl rfl (R7.out.there (by rw [List.size_toArray, HSZ2.out]; exact Nat.le_refl 8)) (by rw [List.size_toArray, HSZ2.out]; kernel_rfl) (all_oneCell_toArray HONE.out) ?_))
          have hW := R7.out.whole (N.map wv) (by rw [HSZ2.out]; rfl)
          refine bodyPost_ret (v := .agg (N.map wv).toArray) (results_cell_row rfl _ _ _ _ _ _ _ rfl hW Try.underlying77 rfl (by rw [List.size_toArray, HSZ2.out]; kernel_rfl)) rfl ?_
          rw [HSS.out, HM2.out]
          exact ⟨rfl, bw hB7 (by omega) _ _⟩
end Go.Proofs.Ytilcondnpoinkaa
