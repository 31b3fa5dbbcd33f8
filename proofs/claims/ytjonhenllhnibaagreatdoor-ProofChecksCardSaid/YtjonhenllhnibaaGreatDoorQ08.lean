/- Texts of this seat, one behind the other: HMixed, HTold, HBld, HPad. -/
import Derived.Deep.AppendLies
import Derived.Laws.MakeOwn
import Derived.Deep.MidRow
import Derived.Shelf.Strings.Builder1
import Derived.Shelf.Strings.Builder2
import Derived.Test.YtjonhenllhnibaaGreatDoorRows
import Derived.Test.YtjonhenllhnibaaGreatDoorQ01
import Derived.Test.YtjonhenllhnibaaGreatDoorQ03
import Derived.Test.YtjonhenllhnibaaGreatDoorQ07
/- The contract of mixed: a state mixed with a block. -/
namespace Go.Proofs.YtjonhenllhnibaaGreatDoor
open Go.RowKit

theorem row_at_ (L : List Nat) (t : Nat) (h : t < L.length) : ((L.map wv).toArray)[t]? = some (wv (wn L t)) := by
  rw [wn_get L t h]
  simp [h]
theorem mixN_succ (s ks ws : List Nat) (t a b c d e f g h : Nat) (H : mixN s ks ws t = [a, b, c, d, e, f, g, h]) : mixN s ks ws (t + 1) = roundL a b c d e f g h (wn ks t) (wn ws t) := by
  rw [mixN, H]; rfl

theorem xor_ones (e : Nat) (h : e < 4294967296) : 4294967295 ^^^ e = 4294967295 - e := by
  have h1 : (BitVec.allOnes 32 ^^^ BitVec.ofNat 32 e).toNat = (~~~ BitVec.ofNat 32 e).toNat := by rw [BitVec.allOnes_xor]
  rw [BitVec.toNat_xor, BitVec.toNat_not, BitVec.toNat_allOnes, BitVec.toNat_ofNat, Nat.mod_eq_of_lt h] at h1
  exact h1
theorem not_int (e : Nat) (h : e < 4294967296) : bits .xor .u32 (if IntKind.u32.signed = true then -1 else IntKind.u32.max) (e : Int) = ((4294967295 - e : Nat) : Int) := by
  have e1 : (if IntKind.u32.signed = true then -1 else IntKind.u32.max : Int) = ((4294967295 : Nat) : Int) := by decide
  rw [e1, u32_xor_nat _ _ (by omega) h, xor_ones e h]
theorem choice_nat (e f g : Nat) (he : e < 4294967296) (hf : f < 4294967296) (hg : g < 4294967296) : bits .xor .u32 (bits .and .u32 (e : Int) (f : Int)) (bits .and .u32 ((4294967295 - e : Nat) : Int) (g : Int)) = ((choice e f g : Nat) : Int) := by
  rw [← choice_int e f g he hf hg]
  have e1 : (4294967295 : Int) - (e : Int) = ((4294967295 - e : Nat) : Int) := by omega
  rw [e1]

/-- The new state, so many of its words being made, and the others as the rounds left them. -/
def nrow (M S : List Nat) (i : Nat) : List Nat := ((List.range i).map fun j => (wn M j + wn S j) % 4294967296) ++ M.drop i
theorem nrow_all (M S : List Nat) (h : M.length = 8) : ((List.range 8).map fun j => (wn M j + wn S j) % 4294967296) = nrow M S 8 := by
  unfold nrow
  rw [List.drop_of_length_le (by omega), List.append_nil]
theorem nrow_len (M S : List Nat) (i : Nat) (h : M.length = 8) (hi : i ≤ 8) : (nrow M S i).length = 8 := by simp [nrow]; omega
theorem nrow_at (M S : List Nat) (i : Nat) (h : M.length = 8) (hi : i < 8) : (((nrow M S i).map wv).toArray)[i]? = some (wv (wn M i)) := by
  have e : M.drop i = M[i] :: M.drop (i + 1) := List.drop_eq_getElem_cons (by omega)
  rw [wn_get M i (by omega), nrow, e]
  generalize M[i] = m
  generalize M.drop (i + 1) = R
  simp
theorem nrow_set (M S : List Nat) (i : Nat) (h : M.length = 8) (hi : i < 8) : (((nrow M S i).map wv).toArray).setIfInBounds i (wv ((wn M i + wn S i) % 4294967296)) = ((nrow M S (i + 1)).map wv).toArray := by
  have e : M.drop i = M[i] :: M.drop (i + 1) := List.drop_eq_getElem_cons (by omega)
  unfold nrow
  rw [e, List.range_succ]
  simp only [List.map_append, List.map_cons, List.map_nil]
  generalize M.drop (i + 1) = R
  generalize M[i] = m
  generalize (wn M i + wn S i) % 4294967296 = n
  simp

set_option maxRecDepth 100000 in
set_option maxHeartbeats 4000000 in
theorem hmixed_any (s0 s1 s2 s3 s4 s5 s6 s7 : Nat) (B : List UInt8) (kb : Nat) (w : World) (hs : ∀ x ∈ [s0, s1, s2, s3, s4, s5, s6, s7], x < 4294967296) (hB : B.length = 64) (hk : Blk w kb 94 (hkeysL.map wv).toArray) :
    Calls Tryz.prog 67 #[.agg #[wv s0, wv s1, wv s2, wv s3, wv s4, wv s5, wv s6, wv s7], .string ⟨B.toArray⟩, .pointer (some ⟨kb, 0, none⟩)] w fun e w' => e = .returned (.agg ((mixL [s0, s1, s2, s3, s4, s5, s6, s7] B).map wv).toArray) ∧ Below w.heap.size w w' := by
  have hkl := hk.lt
  have HSP : Hid (∀ W, Calls Tryz.prog 99 #[.string ⟨B.toArray⟩] W fun e w' => e = .returned (.agg ((sched B 64).map wv).toArray) ∧ Below W.heap.size W w') := Lib.hid (fun W => spread_any B hB W)
  have hWl := sched_len B 64
  have hWt := sched_lt B 64
  obtain ⟨W, hW⟩ : ∃ W, sched B 64 = W := ⟨_, rfl⟩
  rw [hW] at HSP hWl hWt
  have HM : Hid (mixL [s0, s1, s2, s3, s4, s5, s6, s7] B = (List.range 8).map fun i => (wn (mixN [s0, s1, s2, s3, s4, s5, s6, s7] hkeysL W 64) i + wn [s0, s1, s2, s3, s4, s5, s6, s7] i) % 4294967296) := Lib.hid (by unfold mixL; rw [hW])
  have HK := Lib.hid hk
  have HS := Lib.hid hs
  have HWL := Lib.hid hWl
  have HWT := Lib.hid hWt
  clear hk hs hW hB hWl hWt
  go_enter Tryz.func67, Tryz.ntmps67
  go_wp2_with fail
  refine (HSP.out _).mono ?_
  rintro e w1 ⟨rfl, hb1⟩
  have hB1 : Below w.heap.size w w1 := (ba (ba (Below.refl _ _) _) _).trans (hb1.mono (by simp; omega))
  have R1 : Hid (Blk w1 (w.heap.size + 1) 97 #[wv 0, wv 0, wv 0, wv 0, wv 0, wv 0, wv 0, wv 0]) := Lib.hid (Blk.below (heap_alloc2_new w _ _) hb1)
  have hq1 : w.heap.size + 2 ≤ w1.heap.size := by have := hb1.size; simp at this; omega
  have K1 := Lib.hid (((HK.out.alloc _).alloc _).below hb1)
  have S1 : Hid (Blk w1 w.heap.size 97 #[wv s0, wv s1, wv s2, wv s3, wv s4, wv s5, wv s6, wv s7]) := Lib.hid (((Blk.new w _ _).alloc _).below hb1)
  clear hb1 HK
  have hsz : (W.map wv).length = 64 := by rw [List.length_map, HWL.out]
  have HSZ := Lib.hid hsz
  have HONE := Lib.hid (words_one W)
  have HZ := Lib.hid (Blk.new w1 93 (srow B 0))
  have HZS := Lib.hid (srow_size B 0 (by omega))
  clear hsz
  go_wp2_with (refine wpList_store_mid rfl _ _ _ rfl _ _ (W.map wv).toArray rfl rfl (HZ.out.there (by rw [List.size_toArray, HSZ.out, HZS.out]; exact Nat.le_refl _)) (by rw [List.size_toArray, HSZ.out]; kernel_rfl) (all_oneCell_toArray HONE.out) ?_)
  generalize hw2 : World.setCells (World.alloc w1 (Obj.cells _ 93)) w1.heap.size 0 (List.map wv W) = w2
  obtain ⟨q, hq⟩ : ∃ q, w1.heap.size = q := ⟨_, rfl⟩
  have K2 : Hid (Blk w2 kb 94 (hkeysL.map wv).toArray) := Lib.hid (by rw [← hw2]; exact (K1.out.alloc _).far_ (by omega) _ _)
  have S2 : Hid (Blk w2 w.heap.size 97 #[wv s0, wv s1, wv s2, wv s3, wv s4, wv s5, wv s6, wv s7]) := Lib.hid (by rw [← hw2]; exact (S1.out.alloc _).far_ (by omega) _ _)
  have R2 : Hid (Blk w2 (w.heap.size + 1) 97 #[wv 0, wv 0, wv 0, wv 0, wv 0, wv 0, wv 0, wv 0]) := Lib.hid (by rw [← hw2]; exact (R1.out.alloc _).far_ (by omega) _ _)
  have W2 : Hid (Blk w2 q 93 (W.map wv).toArray) := Lib.hid (by rw [← hw2, ← hq]; exact HZ.out.whole (W.map wv) (by rw [HSZ.out, HZS.out]))
  have hB2 : Below w.heap.size w w2 := by rw [← hw2]; exact bw (ba hB1 _) (by omega) _ _
  rw [hq] at hq1 ⊢
  clear hw2 hq K1 S1 R1 HZ HZS hB1 w1
  have c0 := S2.out.cell 0
  have c1 := S2.out.cell 1
  have c2 := S2.out.cell 2
  have c3 := S2.out.cell 3
  have c4 := S2.out.cell 4
  have c5 := S2.out.cell 5
  have c6 := S2.out.cell 6
  have c7 := S2.out.cell 7
  simp only [List.getElem?_toArray, List.getElem?_cons_zero, List.getElem?_cons_succ] at c0 c1 c2 c3 c4 c5 c6 c7
  go_quiet (fail)
  clear c0 c1 c2 c3 c4 c5 c6 c7
  obtain ⟨w3, hw3⟩ := drewN_name w2 nq
  rw [hw3]
  have K3 : Hid (Blk w3 kb 94 (hkeysL.map wv).toArray) := Lib.hid (by rw [← hw3]; exact K2.out.drewN _)
  have S3 : Hid (Blk w3 w.heap.size 97 #[wv s0, wv s1, wv s2, wv s3, wv s4, wv s5, wv s6, wv s7]) := Lib.hid (by rw [← hw3]; exact S2.out.drewN _)
  have R3 : Hid (Blk w3 (w.heap.size + 1) 97 #[wv 0, wv 0, wv 0, wv 0, wv 0, wv 0, wv 0, wv 0]) := Lib.hid (by rw [← hw3]; exact R2.out.drewN _)
  have W3 : Hid (Blk w3 q 93 (W.map wv).toArray) := Lib.hid (by rw [← hw3]; exact W2.out.drewN _)
  have hB3 : Below w.heap.size w w3 := by rw [← hw3]; exact bdn' hB2 _
  clear hw3 hB2 K2 S2 R2 W2
  go_wp2_with fail
  go_loopw [8, 9, 10, 11, 12, 13, 14, 15, 39] (fun va vb vc vd ve vf vg vh iv wr => ∃ t a b c d e f g h : Nat, t ≤ 64 ∧ iv = .int .i64 t ∧ va = wv a ∧ vb = wv b ∧ vc = wv c ∧ vd = wv d ∧ ve = wv e ∧ vf = wv f ∧ vg = wv g ∧ vh = wv h ∧ Hid (mixN [s0, s1, s2, s3, s4, s5, s6, s7] hkeysL W t = [a, b, c, d, e, f, g, h]) ∧ Hid (Blk wr kb 94 (hkeysL.map wv).toArray) ∧ Hid (Blk wr w.heap.size 97 #[wv s0, wv s1, wv s2, wv s3, wv s4, wv s5, wv s6, wv s7]) ∧ Hid (Blk wr (w.heap.size + 1) 97 #[wv 0, wv 0, wv 0, wv 0, wv 0, wv 0, wv 0, wv 0]) ∧ Hid (Blk wr q 93 (W.map wv).toArray) ∧ Below w.heap.size w wr) (fun _ _ _ _ _ _ _ _ iv _ => 64 - (intOf iv).toNat)
  case atStart => exact ⟨0, s0, s1, s2, s3, s4, s5, s6, s7, Nat.zero_le _, rfl, rfl, rfl, rfl, rfl, rfl, rfl, rfl, rfl, Lib.hid rfl, K3, S3, R3, W3, hB3⟩
  case round =>
    clear K3 S3 R3 W3 hB3
    obtain ⟨t, a, b, c, d, e, f, g, h, ht, rfl, rfl, rfl, rfl, rfl, rfl, rfl, rfl, rfl, HN, K4, S4, R4, W4, hB4⟩ := hrel
    have hlts := mixN_lt [s0, s1, s2, s3, s4, s5, s6, s7] hkeysL W HS.out t
    rw [HN.out] at hlts
    by_cases hlt : t < 64
    · have la := hlts a (by simp)
      have lb := hlts b (by simp)
      have lc := hlts c (by simp)
      have le := hlts e (by simp)
      have lf := hlts f (by simp)
      have lg := hlts g (by simp)
      have oK := row_at_ hkeysL t (by rw [keys_len]; exact hlt)
      have oW := row_at_ W t (by rw [HWL.out]; exact hlt)
      have hR := mixN_succ _ hkeysL W t a b c d e f g h HN.out
      obtain ⟨k, hk⟩ : ∃ k, wn hkeysL t = k := ⟨_, rfl⟩
      obtain ⟨x, hx⟩ : ∃ x, wn W t = x := ⟨_, rfl⟩
      rw [hk] at oK hR
      rw [hx] at oW hR
      have hE := bigE_int e le
      have hA := bigA_int a la
      have hC := choice_nat e f g le lf lg
      have hNe := not_int e le
      generalize 4294967295 - e = ne at hC hNe
      have hJ := major_int a b c la lb lc
      have hR0 : roundL a b c d e f g h k x = [((h + bigE e + choice e f g + k + x) % 4294967296 + (bigA a + major a b c) % 4294967296) % 4294967296, a, b, c, (d + (h + bigE e + choice e f g + k + x) % 4294967296) % 4294967296, e, f, g] := rfl
      rw [hR0] at hR
      generalize bigE e = E at hE hR
      generalize bigA a = A at hA hR
      generalize choice e f g = C at hC hR
      generalize major a b c = J at hJ hR
      obtain ⟨T, hT'⟩ : ∃ T, (h + E + C + k + x) % 4294967296 = T := ⟨_, rfl⟩
      obtain ⟨U, hU'⟩ : ∃ U, (A + J) % 4294967296 = U := ⟨_, rfl⟩
      obtain ⟨V, hV'⟩ : ∃ V, (T + U) % 4294967296 = V := ⟨_, rfl⟩
      obtain ⟨D, hD'⟩ : ∃ D, (d + T) % 4294967296 = D := ⟨_, rfl⟩
      obtain ⟨y1, hy1⟩ : ∃ y, (h + E) % 4294967296 = y := ⟨_, rfl⟩
      obtain ⟨y2, hy2⟩ : ∃ y, (y1 + C) % 4294967296 = y := ⟨_, rfl⟩
      obtain ⟨y3, hy3⟩ : ∃ y, (y2 + k) % 4294967296 = y := ⟨_, rfl⟩
      rw [hT', hU', hV', hD'] at hR
      have v1 : IntKind.u32.wrap ((h : Int) + (E : Int)) = (y1 : Int) := by rw [IntKind.wrap_u32]; omega
      have v2 : IntKind.u32.wrap ((y1 : Int) + (C : Int)) = (y2 : Int) := by rw [IntKind.wrap_u32]; omega
      have v3 : IntKind.u32.wrap ((y2 : Int) + (k : Int)) = (y3 : Int) := by rw [IntKind.wrap_u32]; omega
      have v4 : IntKind.u32.wrap ((y3 : Int) + (x : Int)) = (T : Int) := by rw [IntKind.wrap_u32]; omega
      have V5 : Hid (IntKind.u32.wrap ((A : Int) + (J : Int)) = (U : Int)) := Lib.hid (by rw [IntKind.wrap_u32]; omega)
      have V6 : Hid (IntKind.u32.wrap ((T : Int) + (U : Int)) = (V : Int)) := Lib.hid (by rw [IntKind.wrap_u32]; omega)
      have V7 : Hid (IntKind.u32.wrap ((d : Int) + (T : Int)) = (D : Int)) := Lib.hid (by rw [IntKind.wrap_u32]; omega)
      have HR := Lib.hid hR
      have HA := Lib.hid hA
      have HJ := Lib.hid hJ
      have r6 : Hid (∀ m, Calls Tryz.prog 100 #[.int .u32 (e : Int), .int .i64 6] (wr.drewN m) fun e' w' => e' = .returned (.int .u32 (ror e 6 : Nat)) ∧ ∃ q, w' = wr.drewN q) := Lib.hid fun m => cror_at e 6 6 wr le rfl (by omega) (by omega) m
      have r11 : Hid (∀ m, Calls Tryz.prog 100 #[.int .u32 (e : Int), .int .i64 11] (wr.drewN m) fun e' w' => e' = .returned (.int .u32 (ror e 11 : Nat)) ∧ ∃ q, w' = wr.drewN q) := Lib.hid fun m => cror_at e 11 11 wr le rfl (by omega) (by omega) m
      have r25 : Hid (∀ m, Calls Tryz.prog 100 #[.int .u32 (e : Int), .int .i64 25] (wr.drewN m) fun e' w' => e' = .returned (.int .u32 (ror e 25 : Nat)) ∧ ∃ q, w' = wr.drewN q) := Lib.hid fun m => cror_at e 25 25 wr le rfl (by omega) (by omega) m
      have pt : (0 : Int) ≤ (t : Int) := by omega
      have qt : (t : Int) < 64 := by omega
      have cK : wr.cell? ⟨kb, t, none⟩ = some (wv k) := (K4.out.cell _).trans oK
      have cW : wr.cell? ⟨q, t, none⟩ = some (wv x) := (W4.out.cell _).trans oW
      have LA := Lib.hid la
      clear hR hR0 hA hJ hT' hU' hV' hD' hy1 hy2 hy3 hk hx oK oW hlts la lb lc lf lg HS
      go_wp2_with fail
      go_quiet ((go_at_call 100; with_reducible first | exact r6.out _ | exact r11.out _ | exact r25.out _))
      clear cK cW r6 r11 r25 v1 v2 v3 v4 hE hC hNe le
      obtain ⟨w5, hw5⟩ := drewN_name wr nq
      rw [hw5]
      have K5 : Hid (Blk w5 kb 94 (hkeysL.map wv).toArray) := Lib.hid (by rw [← hw5]; exact K4.out.drewN _)
      have S5 : Hid (Blk w5 w.heap.size 97 #[wv s0, wv s1, wv s2, wv s3, wv s4, wv s5, wv s6, wv s7]) := Lib.hid (by rw [← hw5]; exact S4.out.drewN _)
      have R5 : Hid (Blk w5 (w.heap.size + 1) 97 #[wv 0, wv 0, wv 0, wv 0, wv 0, wv 0, wv 0, wv 0]) := Lib.hid (by rw [← hw5]; exact R4.out.drewN _)
      have W5 : Hid (Blk w5 q 93 (W.map wv).toArray) := Lib.hid (by rw [← hw5]; exact W4.out.drewN _)
      have hB5 : Below w.heap.size w w5 := by rw [← hw5]; exact bdn' hB4 _
      clear hw5 hB4 K4 S4 R4 W4
      have hA := HA.out
      have hJ := HJ.out
      have v5 := V5.out
      have v6 := V6.out
      have v7 := V7.out
      go_wp2_with ((first | (with_reducible refine (cror_k a 2 2 w5 LA.out rfl (by omega) (by omega)).mono ?_) | (with_reducible refine (cror_k a 13 13 w5 LA.out rfl (by omega) (by omega)).mono ?_) | (with_reducible refine (cror_k a 22 22 w5 LA.out rfl (by omega) (by omega)).mono ?_)); rintro e w' ⟨rfl, rfl⟩)
      refine ⟨⟨t + 1, V, a, b, c, D, e, f, g, by omega, by go_num, rfl, rfl, rfl, rfl, rfl, rfl, rfl, rfl, Lib.hid HR.out, K5, S5, R5, W5, hB5⟩, by simp [intOf]; omega⟩
    · have hlts0 := hlts
      have ht64 : t = 64 := by omega
      rw [ht64] at HN
      clear ht64 hlts K4 W4
      have HM2 : Hid (mixL [s0, s1, s2, s3, s4, s5, s6, s7] B = nrow [a, b, c, d, e, f, g, h] [s0, s1, s2, s3, s4, s5, s6, s7] 8) := Lib.hid (by rw [HM.out, HN.out, nrow_all _ _ rfl])
      clear HM HN HSP
      have HZ := Lib.hid (Blk.new wr 97 #[wv a, wv b, wv c, wv d, wv e, wv f, wv g, wv h])
      go_wp2_with fail
      obtain ⟨p, hp⟩ : ∃ p, wr.heap.size = p := ⟨_, rfl⟩
      have hpq := hB4.size
      generalize hw6 : World.alloc wr (Obj.cells _ 97) = w6
      have P6 : Hid (Blk w6 p 97 ((nrow [a, b, c, d, e, f, g, h] [s0, s1, s2, s3, s4, s5, s6, s7] 0).map wv).toArray) := Lib.hid (by rw [← hw6, ← hp]; exact HZ.out)
      have n0 := S4.out.lt
      have n1 := R4.out.lt
      have S6 : Hid (Blk w6 w.heap.size 97 #[wv s0, wv s1, wv s2, wv s3, wv s4, wv s5, wv s6, wv s7]) := Lib.hid (by rw [← hw6]; exact S4.out.alloc _)
      have R6 : Hid (Blk w6 (w.heap.size + 1) 97 #[wv 0, wv 0, wv 0, wv 0, wv 0, wv 0, wv 0, wv 0]) := Lib.hid (by rw [← hw6]; exact R4.out.alloc _)
      have hB6 : Below w.heap.size w w6 := by rw [← hw6]; exact ba hB4 _
      rw [hp] at hpq n0 n1 ⊢
      have HMl : Hid (∀ i, wn [a, b, c, d, e, f, g, h] i < 4294967296) := Lib.hid (fun i => wn_lt hlts0 i)
      have HSl : Hid (∀ i, wn [s0, s1, s2, s3, s4, s5, s6, s7] i < 4294967296) := Lib.hid (fun i => wn_lt HS.out i)
      have HSa : Hid (∀ i, i < 8 → (#[wv s0, wv s1, wv s2, wv s3, wv s4, wv s5, wv s6, wv s7])[i]? = some (wv (wn [s0, s1, s2, s3, s4, s5, s6, s7] i))) := Lib.hid (fun i hi => row_at_ [s0, s1, s2, s3, s4, s5, s6, s7] i hi)
      obtain ⟨M, hM⟩ : ∃ M, [a, b, c, d, e, f, g, h] = M := ⟨_, rfl⟩
      have hMl : M.length = 8 := by rw [← hM]; rfl
      obtain ⟨S, hSS⟩ : ∃ S, [s0, s1, s2, s3, s4, s5, s6, s7] = S := ⟨_, rfl⟩
      rw [hM, hSS] at P6 HM2
      rw [hM] at HMl
      rw [hSS] at HSl HSa
      have HML := Lib.hid hMl
      have HSS := Lib.hid hSS
      clear hw6 hp hB4 S4 R4 HZ HS hlts0 hM hMl hSS
      go_loopw [113] (fun iv wx => ∃ i : Nat, i ≤ 8 ∧ iv = .int .i64 i ∧ Hid (Blk wx p 97 ((nrow M S i).map wv).toArray) ∧ Hid (Blk wx w.heap.size 97 #[wv s0, wv s1, wv s2, wv s3, wv s4, wv s5, wv s6, wv s7]) ∧ Hid (Blk wx (w.heap.size + 1) 97 #[wv 0, wv 0, wv 0, wv 0, wv 0, wv 0, wv 0, wv 0]) ∧ Below w.heap.size w wx) (fun iv _ => 8 - (intOf iv).toNat)
      case atStart => exact ⟨0, Nat.zero_le _, rfl, P6, S6, R6, hB6⟩
      case round =>
        clear P6 S6 R6 hB6
        obtain ⟨i, hi, rfl, P7, S7, R7, hB7⟩ := hrel
        by_cases hil : i < 8
        · have c1 : wr.cell? ⟨p, i, none⟩ = some (wv (wn M i)) := (P7.out.cell i).trans (nrow_at M S i HML.out hil)
          have c2 : wr.cell? ⟨w.heap.size, i, none⟩ = some (wv (wn S i)) := (S7.out.cell i).trans (HSa.out i hil)
          have f1 : wr.frozen? ⟨p, i, none⟩ = false := P7.out.frozen i
          have hx := HMl.out i
          have hy := HSl.out i
          have hset := nrow_set M S i HML.out hil
          generalize wn M i = x at c1 hx hset
          generalize wn S i = y at c2 hy hset
          obtain ⟨z, hz⟩ : ∃ z, (x + y) % 4294967296 = z := ⟨_, rfl⟩
          have v1 : IntKind.u32.wrap ((x : Int) + (y : Int)) = (z : Int) := by rw [IntKind.wrap_u32]; omega
          rw [hz] at hset
          have HSET := Lib.hid hset
          have pi : (0 : Int) ≤ (i : Int) := by omega
          have qi : (i : Int) < 8 := by omega
          clear hz hset
          go_wp2_with fail
          go_region
          go_wp2_with fail
          exact ⟨⟨i + 1, by omega, by go_num, Lib.hid (by have := (P7.out.set_ i (wv z)).drew; rw [HSET.out] at this; exact this), Lib.hid (S7.out.far (by simp; omega) _).drew, Lib.hid (R7.out.far (by simp; omega) _).drew, (bs hB7 (by omega) _).drew⟩, by simp [intOf]; omega⟩
        · have hi8 : i = 8 := by omega
          rw [hi8] at P7
          have hsz := nrow_len M S 8 HML.out (Nat.le_refl 8)
          have HONE := Lib.hid (words_one (nrow M S 8))
          obtain ⟨N, hN⟩ : ∃ N, nrow M S 8 = N := ⟨_, rfl⟩
          rw [hN] at P7 HM2 HONE hsz
          have hsz2 : (N.map wv).length = 8 := by rw [List.length_map, hsz]
          have HSZ2 := Lib.hid hsz2
          clear hi8 hsz hN hsz2
          go_wp2_with (first | (refine wpList_load_row rfl _ _ rfl _ rfl _ _ _ _ P7.out Tryz.underlying97 rfl (by rw [List.size_toArray, HSZ2.out]; kernel_rfl) ?_) | (refine wpList_store_mid rfl _ _ _ rfl _ _ (N.map wv).toArray rfl rfl (R7.out.there (by rw [List.size_toArray, HSZ2.out]; exact Nat.le_refl 8)) (by rw [List.size_toArray, HSZ2.out]; kernel_rfl) (all_oneCell_toArray HONE.out) ?_))
          have hW := R7.out.whole (N.map wv) (by rw [HSZ2.out]; rfl)
          refine bodyPost_ret (v := .agg (N.map wv).toArray) (results_cell_row rfl _ _ _ _ _ _ _ rfl hW Tryz.underlying97 rfl (by rw [List.size_toArray, HSZ2.out]; kernel_rfl)) rfl ?_
          rw [HSS.out, HM2.out]
          exact ⟨rfl, bw hB7 (by omega) _ _⟩
end Go.Proofs.YtjonhenllhnibaaGreatDoor
/- The contract of told: a state's bytes. -/
namespace Go.Proofs.YtjonhenllhnibaaGreatDoor
open Go.RowKit

theorem highB_four (x : Nat) : highB x 4 = [UInt8.ofNat (x / 16777216 % 256), UInt8.ofNat (x / 65536 % 256), UInt8.ofNat (x / 256 % 256), UInt8.ofNat (x % 256)] := by
  simp [highB, lowB, Nat.div_div_eq_div_mul]
theorem agg_at (a b c d e f g h k : Nat) (hk : k < 8) (W : World) : (Instr.index 97 (.agg #[wv a, wv b, wv c, wv d, wv e, wv f, wv g, wv h]) (.int .i64 (k : Int))).run Tryz.prog W = .ok (wv (wn [a, b, c, d, e, f, g, h] k)) W := by
  obtain rfl | rfl | rfl | rfl | rfl | rfl | rfl | rfl : k = 0 ∨ k = 1 ∨ k = 2 ∨ k = 3 ∨ k = 4 ∨ k = 5 ∨ k = 6 ∨ k = 7 := by omega
  all_goals kernel_rfl

theorem make32 : ∃ Z : Array Value, Z.size = 32 ∧ ∀ W : World, (Instr.makeSlice 90 (.int .i64 0) (.int .i64 32)).run Tryz.prog W = .ok (.slice (some ⟨W.heap.size, 0, none⟩) 0 32) (W.alloc (.cells Z 5)) := by
  obtain ⟨i0, hi, hz0, hz1, hz2⟩ := info_parts info5
  refine ⟨madeCells (Value.int .u8 0).cells (32 * 1), by simp [madeCells, Value.cells], fun W => ?_⟩
  have h := run_makeSlice (P := Tryz.prog) W 90 5 i0 (.int .u8 0) Tryz.underlying90 hi hz0 .i64 .i64 0 32 (by omega) (by omega) (by rw [hz1]; decide) (by rw [hz2]; decide) (by omega)
  rw [hz1] at h
  exact h

set_option maxRecDepth 100000 in
set_option maxHeartbeats 2000000 in
theorem htold_any (a b c d e f g' h : Nat) (hL : ∀ x ∈ [a, b, c, d, e, f, g', h], x < 4294967296) (w : World) :
    Calls Tryz.prog 68 #[.agg #[wv a, wv b, wv c, wv d, wv e, wv f, wv g', wv h]] w fun e' w' => e' = .returned (.string ⟨(bytesW [a, b, c, d, e, f, g', h]).toArray⟩) ∧ Below w.heap.size w w' := by
  obtain ⟨i0, hi, hz0, hz1, hz2⟩ := info_parts info5
  obtain ⟨Z, hZ, hmk⟩ := make32
  have HZ := Lib.hid hZ
  have HLT := Lib.hid hL
  clear hL hZ
  go_enter Tryz.func68, Tryz.ntmps68
  go_wp2_with fail
  go_loopw [3, 8] (fun ov iv wr => ∃ k g cap : Nat, k ≤ 8 ∧ iv = .int .i64 k ∧ ov = .slice (some ⟨g, 0, none⟩) (4 * k) cap ∧ wr.ownsRow w.heap.size 5 1 (.slice (some ⟨g, 0, none⟩) (4 * k) cap) (4 * k) (Lib.byteCells (bytesW ([a, b, c, d, e, f, g', h].take k))) ∧ Below w.heap.size w wr) (fun _ iv _ => 8 - (intOf iv).toNat)
  case atStart =>
    refine ⟨0, w.heap.size + 1, 32, Nat.zero_le _, rfl, rfl, ⟨rfl, .inr ⟨_, 32, Z, rfl, by omega, ?_, by omega, by unfold maxLen; omega, by rw [HZ.out], by simp [Lib.byteCells, bytesW]⟩⟩, ba (ba (Below.refl _ _) _) _⟩
    exact heap_alloc_new' _ _ (by simp)
  case round =>
    obtain ⟨k, q, cap, hk, rfl, rfl, hown, hb⟩ := hrel
    by_cases hlt : k < 8
    · have hix := agg_at a b c d e f g' h k hlt
      have HT := Lib.hid (bytesW_take [a, b, c, d, e, f, g', h] k hlt)
      have hx1 := wn_lt HLT.out k
      obtain ⟨L, hL⟩ : ∃ L, [a, b, c, d, e, f, g', h] = L := ⟨_, rfl⟩
      rw [hL] at hix HT hx1 hown ⊢
      obtain ⟨x, hx⟩ : ∃ x, wn L k = x := ⟨_, rfl⟩
      rw [hx] at hix HT hx1
      rw [highB_four] at HT
      obtain ⟨b3, h3⟩ : ∃ b3, UInt8.ofNat (x / 16777216 % 256) = b3 := ⟨_, rfl⟩
      obtain ⟨b2, h2⟩ : ∃ b2, UInt8.ofNat (x / 65536 % 256) = b2 := ⟨_, rfl⟩
      obtain ⟨b1, h1⟩ : ∃ b1, UInt8.ofNat (x / 256 % 256) = b1 := ⟨_, rfl⟩
      obtain ⟨b0, h0⟩ : ∃ b0, UInt8.ofNat (x % 256) = b0 := ⟨_, rfl⟩
      rw [h3, h2, h1, h0] at HT
      have e3 : (x : Int) / 16777216 = (b3.toNat : Int) := by rw [← h3]; simp; omega
      have e2 : ((x : Int) / 65536) % 256 = (b2.toNat : Int) := by rw [← h2]; simp
      have e1 : ((x : Int) / 256) % 256 = (b1.toNat : Int) := by rw [← h1]; simp
      have e0 : (x : Int) % 256 = (b0.toNat : Int) := by rw [← h0]; simp
      have HL := Lib.hid hL
      have z := hb.size
      have HO := Lib.hid hown
      have hnews := news_new wr [.int .u8 (b3.toNat : Int), .int .u8 (b2.toNat : Int), .int .u8 (b1.toNat : Int), .int .u8 (b0.toNat : Int)] 5
      clear hx h3 h2 h1 h0 hL hown
      go_wp2_with (at_builtin; refine wpList_append_own _ rfl _ _ 90 rfl w.heap.size 5 i0 (.int .u8 0) 1 1 Tryz.underlying90 hi hz0 hz1 hz2 rfl (by decide) _ _ _ rfl (own_alloc HO.out _) ⟨wr.heap.size, 0, none⟩ 4 4 [.int .u8 (b3.toNat : Int), .int .u8 (b2.toNat : Int), .int .u8 (b1.toNat : Int), .int .u8 (b0.toNat : Int)] rfl rfl hnews (by simp [Value.oneCell']) (by unfold maxLen; omega) (by omega) (by simp; omega) ?_; intro v' w1 hown' hgrow _; obtain ⟨g1, c1, rfl⟩ := ownsRow_succ hown'; have HO1 := Lib.hid hown'; clear hown' hnews)
      have hb1 : Below w.heap.size w w1 := (hb.alloc hb.size _).grown hgrow (by simp; omega) (fun r e => by cases e; exact (HO.out.lt _ rfl).1)
      have HO2 : w1.ownsRow w.heap.size 5 1 (.slice (some ⟨g1, 0, none⟩) (4 * (k + 1)) c1) (4 * (k + 1)) (Lib.byteCells (bytesW (L.take (k + 1)))) := by
        rw [HT.out, Lib.byteCells_append]
        exact HO1.out
      exact ⟨⟨k + 1, g1, c1, by omega, by go_num, rfl, HO2, hb1⟩, by simp [intOf]; omega⟩
    · obtain rfl : k = 8 := by omega
      have hcv := own_text hown (by rw [bytesW_len]; rfl)
      go_wp2_with fail
      go_ret
      exact ⟨rfl, hb⟩
end Go.Proofs.YtjonhenllhnibaaGreatDoor
/- strings.Builder's methods, as they stand in this program: the numbers under which the library's contracts find them. -/
namespace Go.Proofs.YtjonhenllhnibaaGreatDoor
open Go.Shelf Go.RowKit
def bldRen : Go.Shelf.Ren := ⟨fun | 165 => 94 | 166 => 95 | 167 => 96 | 169 => 98 | 170 => 97 | 240 => 120 | 241 => 121 | 276 => 132 | 277 => 133 | n => n, fun | 0 => 0 | 3 => 3 | 4 => 4 | 5 => 5 | 9 => 9 | 20 => 20 | 37 => 90 | 70 => 125 | 72 => 127 | 75 => 130 | 80 => 101 | 127 => 159 | 164 => 170 | n => n, fun | n => n⟩
theorem bldLays170 : Go.Proofs.Lays.n170 Tryz.prog bldRen := {
  mixed := by kernel_rfl
  f170 := Tryz.func97.trans (congrArg some (by kernel_rfl))
  t0 := Tryz.underlying0
  a0 := Tryz.isAgg0
  z0 := Tryz.sizeOf0
  v0 := Tryz.zeroValue0
  t3 := Tryz.underlying3
  a3 := Tryz.isAgg3
  z3 := Tryz.sizeOf3
  v3 := Tryz.zeroValue3
  t37 := Tryz.underlying90
  a37 := Tryz.isAgg90
  z37 := Tryz.sizeOf90
  v37 := Tryz.zeroValue90
  t70 := Tryz.underlying125
  a70 := Tryz.isAgg125
  z70 := Tryz.sizeOf125
  v70 := Tryz.zeroValue125
  t72 := Tryz.underlying127
  a72 := Tryz.isAgg127
  z72 := Tryz.sizeOf127
  v72 := Tryz.zeroValue127 }
theorem bldLays169 : Go.Proofs.Lays.n169 Tryz.prog bldRen := {
  mixed := by kernel_rfl
  f169 := Tryz.func98.trans (congrArg some (by kernel_rfl))
  t0 := Tryz.underlying0
  a0 := Tryz.isAgg0
  z0 := Tryz.sizeOf0
  v0 := Tryz.zeroValue0
  t3 := Tryz.underlying3
  a3 := Tryz.isAgg3
  z3 := Tryz.sizeOf3
  v3 := Tryz.zeroValue3
  t9 := Tryz.underlying9
  a9 := Tryz.isAgg9
  z9 := Tryz.sizeOf9
  v9 := Tryz.zeroValue9
  t37 := Tryz.underlying90
  a37 := Tryz.isAgg90
  z37 := Tryz.sizeOf90
  v37 := Tryz.zeroValue90
  t70 := Tryz.underlying125
  a70 := Tryz.isAgg125
  z70 := Tryz.sizeOf125
  v70 := Tryz.zeroValue125
  t72 := Tryz.underlying127
  a72 := Tryz.isAgg127
  z72 := Tryz.sizeOf127
  v72 := Tryz.zeroValue127
  t127 := Tryz.underlying159
  a127 := Tryz.isAgg159
  z127 := Tryz.sizeOf159
  v127 := Tryz.zeroValue159 }
theorem bldLays165 : Go.Proofs.Lays.n165 Tryz.prog bldRen := {
  mixed := by kernel_rfl
  f165 := Tryz.func94.trans (congrArg some (by kernel_rfl))
  f240 := Tryz.func120.trans (congrArg some (by kernel_rfl))
  f241 := Tryz.func121.trans (congrArg some (by kernel_rfl))
  f276 := Tryz.func132.trans (congrArg some (by kernel_rfl))
  f277 := Tryz.func133.trans (congrArg some (by kernel_rfl))
  t0 := Tryz.underlying0
  a0 := Tryz.isAgg0
  z0 := Tryz.sizeOf0
  v0 := Tryz.zeroValue0
  t3 := Tryz.underlying3
  a3 := Tryz.isAgg3
  z3 := Tryz.sizeOf3
  v3 := Tryz.zeroValue3
  t4 := Tryz.underlying4
  a4 := Tryz.isAgg4
  z4 := Tryz.sizeOf4
  v4 := Tryz.zeroValue4
  t9 := Tryz.underlying9
  a9 := Tryz.isAgg9
  z9 := Tryz.sizeOf9
  v9 := Tryz.zeroValue9
  t20 := Tryz.underlying20
  a20 := Tryz.isAgg20
  z20 := Tryz.sizeOf20
  v20 := Tryz.zeroValue20
  t37 := Tryz.underlying90
  a37 := Tryz.isAgg90
  z37 := Tryz.sizeOf90
  v37 := Tryz.zeroValue90
  t70 := Tryz.underlying125
  a70 := Tryz.isAgg125
  z70 := Tryz.sizeOf125
  v70 := Tryz.zeroValue125
  t72 := Tryz.underlying127
  a72 := Tryz.isAgg127
  z72 := Tryz.sizeOf127
  v72 := Tryz.zeroValue127
  t164 := Tryz.underlying170
  a164 := Tryz.isAgg170
  z164 := Tryz.sizeOf170
  v164 := Tryz.zeroValue170 }
theorem bldLays167 : Go.Proofs.Lays.n167 Tryz.prog bldRen := {
  mixed := by kernel_rfl
  f167 := Tryz.func96.trans (congrArg some (by kernel_rfl))
  f240 := Tryz.func120.trans (congrArg some (by kernel_rfl))
  f276 := Tryz.func132.trans (congrArg some (by kernel_rfl))
  t0 := Tryz.underlying0
  a0 := Tryz.isAgg0
  z0 := Tryz.sizeOf0
  v0 := Tryz.zeroValue0
  t4 := Tryz.underlying4
  a4 := Tryz.isAgg4
  z4 := Tryz.sizeOf4
  v4 := Tryz.zeroValue4
  t5 := Tryz.underlying5
  a5 := Tryz.isAgg5
  z5 := Tryz.sizeOf5
  v5 := Tryz.zeroValue5
  t9 := Tryz.underlying9
  a9 := Tryz.isAgg9
  z9 := Tryz.sizeOf9
  v9 := Tryz.zeroValue9
  t20 := Tryz.underlying20
  a20 := Tryz.isAgg20
  z20 := Tryz.sizeOf20
  v20 := Tryz.zeroValue20
  t37 := Tryz.underlying90
  a37 := Tryz.isAgg90
  z37 := Tryz.sizeOf90
  v37 := Tryz.zeroValue90
  t70 := Tryz.underlying125
  a70 := Tryz.isAgg125
  z70 := Tryz.sizeOf125
  v70 := Tryz.zeroValue125
  t72 := Tryz.underlying127
  a72 := Tryz.isAgg127
  z72 := Tryz.sizeOf127
  v72 := Tryz.zeroValue127
  t75 := Tryz.underlying130
  a75 := Tryz.isAgg130
  z75 := Tryz.sizeOf130
  v75 := Tryz.zeroValue130
  t164 := Tryz.underlying170
  a164 := Tryz.isAgg170
  z164 := Tryz.sizeOf170
  v164 := Tryz.zeroValue170 }
theorem bldLays166 : Go.Proofs.Lays.n166 Tryz.prog bldRen := {
  mixed := by kernel_rfl
  f166 := Tryz.func95.trans (congrArg some (by kernel_rfl))
  f240 := Tryz.func120.trans (congrArg some (by kernel_rfl))
  f276 := Tryz.func132.trans (congrArg some (by kernel_rfl))
  t0 := Tryz.underlying0
  a0 := Tryz.isAgg0
  z0 := Tryz.sizeOf0
  v0 := Tryz.zeroValue0
  t3 := Tryz.underlying3
  a3 := Tryz.isAgg3
  z3 := Tryz.sizeOf3
  v3 := Tryz.zeroValue3
  t4 := Tryz.underlying4
  a4 := Tryz.isAgg4
  z4 := Tryz.sizeOf4
  v4 := Tryz.zeroValue4
  t9 := Tryz.underlying9
  a9 := Tryz.isAgg9
  z9 := Tryz.sizeOf9
  v9 := Tryz.zeroValue9
  t20 := Tryz.underlying20
  a20 := Tryz.isAgg20
  z20 := Tryz.sizeOf20
  v20 := Tryz.zeroValue20
  t37 := Tryz.underlying90
  a37 := Tryz.isAgg90
  z37 := Tryz.sizeOf90
  v37 := Tryz.zeroValue90
  t70 := Tryz.underlying125
  a70 := Tryz.isAgg125
  z70 := Tryz.sizeOf125
  v70 := Tryz.zeroValue125
  t72 := Tryz.underlying127
  a72 := Tryz.isAgg127
  z72 := Tryz.sizeOf127
  v72 := Tryz.zeroValue127
  t75 := Tryz.underlying130
  a75 := Tryz.isAgg130
  z75 := Tryz.sizeOf130
  v75 := Tryz.zeroValue130
  t164 := Tryz.underlying170
  a164 := Tryz.isAgg170
  z164 := Tryz.sizeOf170
  v164 := Tryz.zeroValue170 }
theorem bldExtra : Builder.Extra Tryz.prog bldRen := {
  sizeBuilder := by kernel_rfl
  liesBuilder := by kernel_rfl
  t5 := Tryz.underlying5
  a5 := Tryz.isAgg5
  z5 := Tryz.sizeOf5
  v5 := Tryz.zeroValue5
  infoByte := by kernel_rfl
  cellsByte := by kernel_rfl
  sizeByte := by kernel_rfl
  neB5 := by decide }
/-- A builder that holds the bytes cs. -/
abbrev Bld (w : World) (B b : Nat) (cs : List Value) : Prop := Lib.IsBuilder 127 5 B b cs w
theorem bgrow_any (B b n : Nat) (w : World) (hB : B ≤ b) (hbk : w.heap[b]? = some (.cells #[.pointer none, .slice none 0 0] 127 (0, 0))) (hBw : B ≤ w.heap.size) (hn : n ≤ 281474976710656) :
    Calls Tryz.prog 94 #[.pointer (some ⟨b, 0, none⟩), .int .i64 (n : Int)] w fun e w' => e = .returned (.tuple #[]) ∧ Bld w' B b [] ∧ Below B w w' :=
  (Any.Builder_Grow_fresh bldLays165 bldExtra B b n w hB hbk hBw hn).mono fun _ _ ⟨h, k, l⟩ => ⟨h, .inr k, l⟩
theorem bbyte_any (B b : Nat) (bs : List Value) (c : Int) (w : World) (h : Bld w B b bs) (hlen : bs.length + 1 ≤ 140737488355328) (hBw : B ≤ w.heap.size) :
    Calls Tryz.prog 96 #[.pointer (some ⟨b, 0, none⟩), .int .u8 c] w fun e w' => e = .returned .nilIface ∧ Bld w' B b (bs ++ [.int .u8 c]) ∧ Below B w w' :=
  (Any.Builder_WriteByte bldLays167 bldExtra B b bs c w h hlen hBw).mono fun _ _ ⟨h, k, l⟩ => ⟨h, .inr k, l⟩
theorem bstring_any (B b : Nat) (bs : List Value) (s : ByteArray) (w : World) (h : Bld w B b bs) (hlen : bs.length + s.size ≤ 140737488355328) (hBw : B ≤ w.heap.size) :
    Calls Tryz.prog 95 #[.pointer (some ⟨b, 0, none⟩), .string s] w fun e w' => e = .returned (.tuple #[.int .i64 s.size, .nilIface]) ∧ Bld w' B b (bs ++ Lib.strCells s) ∧ Below B w w' :=
  (Any.Builder_WriteString bldLays166 bldExtra B b bs s w h hlen hBw).mono fun _ _ ⟨h, k, l⟩ => ⟨h, .inr k, l⟩
theorem blen_any (B b : Nat) (bs : List Value) (w : World) (h : Bld w B b bs) :
    Calls Tryz.prog 97 #[.pointer (some ⟨b, 0, none⟩)] w fun e w' => e = .returned (.int .i64 (bs.length : Int)) ∧ w = w' :=
  (Any.Builder_Len bldLays170 B b bs w h).mono fun _ _ ⟨h, k⟩ => ⟨h, k.symm⟩
theorem btext_any (B b : Nat) (l : List UInt8) (w : World) (h : Bld w B b (Lib.byteCells l)) (hBw : B ≤ w.heap.size) :
    Calls Tryz.prog 98 #[.pointer (some ⟨b, 0, none⟩)] w fun e w' => e = .returned (.string ⟨l.toArray⟩) ∧ Below B w w' := Any.Builder_String_any bldLays169 bldExtra B b l w h hBw
theorem Bld.later {w w' : World} {B b : Nat} {cs : List Value} (h : Bld w B b cs) (hb : Below w.heap.size w w') : Bld w' B b cs := by
  have key : ∀ p, Lib.BuilderAt 127 5 B b p cs w → Lib.BuilderAt 127 5 B b p cs w' := by
    rintro p ⟨hB, v, hv, hown, hne⟩
    refine ⟨hB, v, (hb.block b (Array.getElem?_eq_some_iff.1 hv).1).trans hv, ?_, hne⟩
    obtain ⟨h1, h2⟩ := hown
    refine ⟨h1, ?_⟩
    rcases h2 with h2 | ⟨g, cap, cur, hv, hg, hh, r⟩
    · exact Or.inl h2
    · exact Or.inr ⟨g, cap, cur, hv, hg, (hb.block g (Array.getElem?_eq_some_iff.1 hh).1).trans hh, r⟩
  rcases h with h | h
  · exact .inl (key _ h)
  · exact .inr (key _ h)
end Go.Proofs.YtjonhenllhnibaaGreatDoor
/- The contract of the code's Pad. -/
namespace Go.Proofs.YtjonhenllhnibaaGreatDoor
open Go.RowKit

theorem bcells_snoc (l : List UInt8) (b : UInt8) : Lib.byteCells l ++ [.int .u8 (b.toNat : Int)] = Lib.byteCells (l ++ [b]) := by simp [Lib.byteCells]
theorem bcells_len (l : List UInt8) : (Lib.byteCells l).length = l.length := by simp [Lib.byteCells]
/-- A number's 8 bytes, the highest first, so many of them. -/
def topB (n k : Nat) : List UInt8 := (List.range k).map fun i => UInt8.ofNat (n / 2 ^ (8 * (7 - i)) % 256)
theorem topB_succ (n k : Nat) : topB n (k + 1) = topB n k ++ [UInt8.ofNat (n / 2 ^ (8 * (7 - k)) % 256)] := by simp [topB, List.range_succ]
theorem topB_len (n k : Nat) : (topB n k).length = k := by simp [topB]
theorem topB_all (n : Nat) : topB n 8 = highB n 8 := by
  simp [topB, List.range_succ, highB, lowB, Nat.div_div_eq_div_mul]

/-- How many bytes a builder holds, read off the memory. -/
def bldLen (W : World) (b : Nat) : Nat := match W.cell? ⟨b, 1, none⟩ with | some (.slice _ n _) => n | _ => 0
theorem bldLen_of {W : World} {B b : Nat} {cs : List Value} (h : Bld W B b cs) : bldLen W b = cs.length := by
  have key : ∀ p, Lib.BuilderAt 127 5 B b p cs W → bldLen W b = cs.length := by
    rintro p ⟨hB, v, hv, hown, hne⟩
    have hc : W.cell? ⟨b, 1, none⟩ = some v := by rw [Lib.cell_of_heap hv]; rfl
    rcases hown.2 with ⟨rfl, h0⟩ | ⟨g, cap, cur, rfl, _⟩
    · simp [bldLen, hc, h0]
    · simp [bldLen, hc]
  rcases h with h | h
  · exact key _ h
  · exact key _ h

set_option maxRecDepth 100000 in
set_option maxHeartbeats 2000000 in
theorem pad_any (s : List UInt8) (w : World) (hs : s.length ≤ 1048576) :
    Calls Tryz.prog 66 #[.string ⟨s.toArray⟩] w fun e w' => e = .returned (.string ⟨(padL s).toArray⟩) ∧ Below w.heap.size w w' := by
  have hz := size_of s
  obtain ⟨N, hN⟩ : ∃ N, s.length = N := ⟨_, rfl⟩
  have hZ1 := padZ_mod N
  have hZ2 := padZ_first N
  have hZ3 := padZ_lt N
  obtain ⟨Z, hZ⟩ : ∃ Z, padZ N = Z := ⟨_, rfl⟩
  rw [hZ] at hZ1 hZ2 hZ3
  have HZ1 := Lib.hid hZ1
  have HZ2 := Lib.hid hZ2
  have HP : Hid (padL s = s ++ [128] ++ List.replicate Z 0 ++ topB (8 * N) 8) := Lib.hid (by unfold padL; rw [hN, hZ, topB_all])
  rw [hN] at hz hs
  have HN := Lib.hid hN
  have HZ := Lib.hid hz
  clear hN hZ hZ1 hZ2
  have hG := bgrow_any w.heap.size w.heap.size (N + 64 + 8) (w.alloc (.cells #[.pointer none, .slice none 0 0] 127)) (Nat.le_refl _) (heap_alloc_new w _) (by simp) (by omega)
  have HG := Lib.hid hG
  clear hG
  go_enter Tryz.func66, Tryz.ntmps66
  go_wp2_with fail
  refine HG.out.mono ?_
  rintro e w1 ⟨rfl, h1, hb1⟩
  have hB1 : Below w.heap.size w w1 := (ba (Below.refl _ _) _).trans hb1
  have z1 := hB1.size
  clear hz
  go_wp2_with fail
  refine (bstring_any _ _ _ ⟨s.toArray⟩ _ h1 (by rw [HZ.out]; simp; omega) z1).mono ?_
  rintro e w2 ⟨rfl, h2, hb2⟩
  have hB2 : Below w.heap.size w w2 := hB1.trans hb2
  have z2 := hB2.size
  have hl2 : ([] ++ Lib.strCells ⟨s.toArray⟩ : List Value).length = N := by rw [List.nil_append, Lib.strCells_length, HZ.out]
  have HL2 := Lib.hid hl2
  clear hl2
  go_wp2_with fail
  refine (bbyte_any _ _ _ _ _ h2 (by rw [HL2.out]; omega) z2).mono ?_
  rintro e w3 ⟨rfl, h3, hb3⟩
  have hB3 : Below w.heap.size w w3 := hB2.trans hb3
  have h3' : Bld w3 w.heap.size w.heap.size (Lib.byteCells (s ++ [128])) := by
    have e : Lib.byteCells (s ++ [128]) = [] ++ Lib.strCells ⟨s.toArray⟩ ++ [.int .u8 128] := by simp [Lib.byteCells, Lib.strCells_eq]
    rw [e]; exact h3
  clear h1 h2 h3 hb1 hb2 hb3 hB1 hB2 z1 z2 HL2 HG
  go_wp2_with fail
  go_loopw [17] (fun _ wr => ∃ k : Nat, k ≤ Z ∧ Bld wr w.heap.size w.heap.size (Lib.byteCells (s ++ [128] ++ List.replicate k 0)) ∧ Below w.heap.size w wr) (fun _ wr => 2097152 - bldLen wr w.heap.size)
  case atStart => exact ⟨0, Nat.zero_le _, by simpa using h3', hB3⟩
  case round =>
    obtain ⟨k, hk, h4, hb⟩ := hrel
    obtain ⟨S, hS⟩ : ∃ S, s ++ [128] ++ List.replicate k 0 = S := ⟨_, rfl⟩
    have hl : S.length = N + 1 + k := by rw [← hS, ← HN.out]; simp; omega
    have hS1 : s ++ [128] ++ List.replicate (k + 1) 0 = S ++ [0] := by rw [← hS, List.replicate_succ']; simp
    rw [hS] at h4
    have z := hb.size
    have hlen : (Lib.byteCells S).length = N + 1 + k := by rw [bcells_len, hl]
    have HM := Lib.hid (bldLen_of h4)
    have HLN := Lib.hid hlen
    have hLen := blen_any _ _ _ _ h4
    rw [hlen] at hLen
    have HLen := Lib.hid hLen
    have HS := Lib.hid hS
    have HS1 := Lib.hid hS1
    have HL := Lib.hid hl
    clear hLen hlen hS hS1 hl
    by_cases hlt : k < Z
    · have hn0 : ¬ (((N : Int) + 1 + k) % 64 = 56) := by have := HZ2.out k hlt; omega
      have hne : (((N : Int) + 1 + k) % 64 != 56) = true := by simpa using hn0
      clear hn0
      go_wp2_with fail
      refine HLen.out.mono ?_
      rintro e w4 ⟨rfl, rfl⟩
      go_wp2_with fail
      refine (bbyte_any _ _ _ _ _ h4 (by rw [HLN.out]; omega) z).mono ?_
      rintro e w5 ⟨rfl, h5, hb5⟩
      have h5' : Bld w5 w.heap.size w.heap.size (Lib.byteCells (S ++ [0])) := by rw [← bcells_snoc]; exact h5
      have HM5 := Lib.hid (bldLen_of h5')
      clear h5
      go_wp2_with fail
      refine ⟨⟨k + 1, by omega, by rw [HS1.out]; exact h5', hb.trans hb5⟩, ?_⟩
      rw [HM5.out, HM.out, HLN.out, bcells_len, List.length_append, HL.out]
      simp
      omega
    · obtain rfl : k = Z := by omega
      have hn0 : ((N : Int) + 1 + k) % 64 = 56 := by have := HZ1.out; omega
      have hne : (((N : Int) + 1 + k) % 64 != 56) = false := by simp [hn0]
      clear hn0
      go_wp2_with fail
      refine HLen.out.mono ?_
      rintro e w4 ⟨rfl, rfl⟩
      have hz := HZ.out
      have hl8 : ∀ i, (topB (8 * N) i).length = i := topB_len _
      have HL8 := Lib.hid hl8
      clear hl8
      go_wp2_with fail
      clear hz
      go_loopw [22] (fun iv wr => ∃ i : Nat, i ≤ 8 ∧ iv = .int .i64 i ∧ Bld wr w.heap.size w.heap.size (Lib.byteCells (S ++ topB (8 * N) i)) ∧ Below w.heap.size w wr) (fun iv _ => 8 - (intOf iv).toNat)
      case atStart => exact ⟨0, Nat.zero_le _, rfl, by simpa [topB] using h4, hb⟩
      case round =>
        obtain ⟨i, hi, rfl, h6, hb6⟩ := hrel
        have z6 := hb6.size
        have HL6 : Hid ((Lib.byteCells (S ++ topB (8 * N) i)).length = N + 1 + k + i) := Lib.hid (by rw [bcells_len, List.length_append, HL.out, HL8.out])
        by_cases hlt : i < 8
        · have ht : (8 * (7 - (i : Int))).toNat = 8 * (7 - i) := by omega
          have hv : ((N : Int) * 8 / 2 ^ (8 * (7 - i)) % 256) = ((UInt8.ofNat (8 * N / 2 ^ (8 * (7 - i)) % 256)).toNat : Int) := by
            have e : (UInt8.ofNat (8 * N / 2 ^ (8 * (7 - i)) % 256)).toNat = 8 * N / 2 ^ (8 * (7 - i)) % 256 := by simp
            rw [e, Nat.mul_comm 8 N]
            simp
          have HV := Lib.hid hv
          clear hv
          go_wp2_with fail
          refine (bbyte_any _ _ _ _ _ h6 (by rw [HL6.out]; omega) z6).mono ?_
          rintro e w7 ⟨rfl, h7, hb7⟩
          have h7' : Bld w7 w.heap.size w.heap.size (Lib.byteCells (S ++ topB (8 * N) (i + 1))) := by
            rw [topB_succ, ← List.append_assoc, ← bcells_snoc, ← HV.out]
            exact h7
          clear h7
          go_wp2_with fail
          exact ⟨⟨i + 1, by omega, by go_num, h7', hb6.trans hb7⟩, by simp [intOf]; omega⟩
        · obtain rfl : i = 8 := by omega
          go_wp2_with fail
          refine (btext_any _ _ _ _ h6 z6).mono ?_
          rintro e w7 ⟨rfl, hb7⟩
          go_wp2_with fail
          go_ret
          refine ⟨?_, hb6.trans hb7⟩
          rw [HP.out, HS.out]
          rfl
end Go.Proofs.YtjonhenllhnibaaGreatDoor
